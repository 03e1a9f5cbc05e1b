/- Joined: U4, U5. -/
import Derived.Test.YtanlcmdnhhdhaaaGreatDoorJ10
/- buddy.Buddy, as it lies: ten sets of runs. -/
namespace Go.Proofs.YtanlcmdnhhdhaaaGreatDoor
open Go.RowKit

/-- How many words the set of an order has. -/
def ln (hi o : Nat) : Nat := (hi / 2 ^ o + 63) / 64
theorem ln_le {hi : Nat} (h : hi ≤ 1048576) (o : Nat) : ln hi o ≤ 16384 := by
  have := Nat.div_le_self hi (2 ^ o)
  unfold ln; omega
structure BM (w : World) (U : Nat → Prop) (p lo hi fr : Nat) (wb sz lw : Nat → Nat) (W : Nat → Nat → Nat) : Prop where
  own : ∀ k, U k → k < w.heap.size
  up : U p
  ub : ∀ o, o < 10 → U (wb o)
  u0 : ¬ U 1
  tab : TAB w
  c0 : w.cell? ⟨p, 0, none⟩ = some (.int .i64 (lo : Int))
  c1 : w.cell? ⟨p, 1, none⟩ = some (.int .i64 (hi : Int))
  c2 : w.cell? ⟨p, 2, none⟩ = some (.int .i64 (fr : Int))
  cs : ∀ o, o < 10 → w.cell? ⟨p, 3 + o * 3, none⟩ = some (.slice (some ⟨wb o, 0, none⟩) (ln hi o) (ln hi o))
  cz : ∀ o, o < 10 → w.cell? ⟨p, 3 + o * 3 + 1, none⟩ = some (.int .i64 (sz o : Int))
  cl : ∀ o, o < 10 → w.cell? ⟨p, 3 + o * 3 + 2, none⟩ = some (.int .i64 (lw o : Int))
  fz : ∀ j, w.frozen? ⟨p, j, none⟩ = false
  cw : ∀ o, o < 10 → ∀ q, q < ln hi o → w.cell? ⟨wb o, q, none⟩ = some (.int .u64 (W o q : Int))
  fw : ∀ o, o < 10 → ∀ q, w.frozen? ⟨wb o, q, none⟩ = false
  nb : ∀ o, o < 10 → wb o ≠ p
  inj : ∀ o o', o < 10 → o' < 10 → wb o = wb o' → o = o'
  hw : ∀ o q, W o q < 18446744073709551616
  hh : hi ≤ 1048576
section
variable {w : World} {U : Nat → Prop} {p lo hi fr : Nat} {wb sz lw : Nat → Nat} {W : Nat → Nat → Nat}
theorem BM.fr' {w' : World} (h : BM w U p lo hi fr wb sz lw W) {X : Nat → Prop} (k : Fr X w w') (hX : ∀ i, U i → ¬ X i) (hX0 : ¬ X 1) : BM w' U p lo hi fr wb sz lw W :=
  have hp : ∀ j, w'.cell? ⟨p, j, none⟩ = w.cell? ⟨p, j, none⟩ := fun j => k.cell (a := ⟨p, j, none⟩) (h.own p h.up) (hX p h.up)
  have hb : ∀ o, o < 10 → ∀ j, w'.cell? ⟨wb o, j, none⟩ = w.cell? ⟨wb o, j, none⟩ := fun o ho j => k.cell (a := ⟨wb o, j, none⟩) (h.own _ (h.ub o ho)) (hX _ (h.ub o ho))
  ⟨fun i hi => Nat.lt_of_lt_of_le (h.own i hi) k.size, h.up, h.ub, h.u0, h.tab.fr k hX0, (hp _).trans h.c0, (hp _).trans h.c1, (hp _).trans h.c2, fun o ho => (hp _).trans (h.cs o ho), fun o ho => (hp _).trans (h.cz o ho), fun o ho => (hp _).trans (h.cl o ho),
   fun j => (World.frozen?_of_block (a := ⟨p, j, none⟩) (k.block p (h.own p h.up) (hX p h.up))).trans (h.fz j), fun o ho q hq => (hb o ho q).trans (h.cw o ho q hq), fun o ho q => (World.frozen?_of_block (a := ⟨wb o, q, none⟩) (k.block _ (h.own _ (h.ub o ho)) (hX _ (h.ub o ho)))).trans (h.fw o ho q), h.nb, h.inj, h.hw, h.hh⟩
theorem BM.drewN (h : BM w U p lo hi fr wb sz lw W) (n : Nat) : BM (w.drewN n) U p lo hi fr wb sz lw W := h.fr' (((Kp.refl w).drewN n).fr (fun _ => False)) (fun _ _ => id) id
theorem BM.drew (h : BM w U p lo hi fr wb sz lw W) : BM w.drew U p lo hi fr wb sz lw W := h.fr' (((Kp.refl w).drew).fr (fun _ => False)) (fun _ _ => id) id
theorem ne_addr {b b' o o' : Nat} (h : b ≠ b' ∨ o ≠ o') : (⟨b, o, none⟩ : Addr) ≠ ⟨b', o', none⟩ := by
  intro z
  simp only [Addr.mk.injEq] at z
  omega
theorem tab_set {w : World} (t : TAB w) (b j : Nat) (v : Value) (hb : b ≠ 1) : TAB (w.setCell ⟨b, j, none⟩ v) := t.fr (S := (· = b)) ((Fr.refl _ w).set _ _ rfl) (fun e => hb e.symm)
theorem BM.p0 (h : BM w U p lo hi fr wb sz lw W) : p ≠ 1 := fun e => h.u0 (e ▸ h.up)
theorem BM.w0 (h : BM w U p lo hi fr wb sz lw W) (o : Nat) (ho : o < 10) : wb o ≠ 1 := fun e => h.u0 (e ▸ h.ub o ho)
theorem BM.setW (h : BM w U p lo hi fr wb sz lw W) (o q u : Nat) (ho : o < 10) (hq : q < ln hi o) (hu : u < 18446744073709551616) :
    BM (w.setCell ⟨wb o, q, none⟩ (.int .u64 (u : Int))) U p lo hi fr wb sz lw (fun o' q' => if o' = o ∧ q' = q then u else W o' q') :=
  have hp : ∀ j, (w.setCell ⟨wb o, q, none⟩ (.int .u64 (u : Int))).cell? ⟨p, j, none⟩ = w.cell? ⟨p, j, none⟩ := fun j => World.cell?_setCell_other _ _ _ _ (ne_addr (.inl (h.nb o ho)))
  ⟨fun i hi => by rw [World.size_setCell]; exact h.own i hi, h.up, h.ub, h.u0, tab_set h.tab _ _ _ (h.w0 o ho), (hp _).trans h.c0, (hp _).trans h.c1, (hp _).trans h.c2, fun o ho => (hp _).trans (h.cs o ho), fun o ho => (hp _).trans (h.cz o ho), fun o ho => (hp _).trans (h.cl o ho),
   fun j => by rw [World.frozen?_setCell]; exact h.fz j, fun o' ho' q' hq' => by
    by_cases e : o' = o ∧ q' = q
    · obtain ⟨rfl, rfl⟩ := e
      rw [if_pos ⟨rfl, rfl⟩, World.cell?_setCell_same _ _ _ (h.cw o' ho' q' hq')]
    · rw [if_neg e, World.cell?_setCell_other _ _ _ _ (ne_addr (by
        by_cases e1 : o' = o
        · right; exact fun z => e ⟨e1, z.symm⟩
        · left; exact fun z => e1 (h.inj o o' ho ho' z).symm))]
      exact h.cw o' ho' q' hq', fun o' ho' q' => by rw [World.frozen?_setCell]; exact h.fw o' ho' q', h.nb, h.inj, fun o' q' => by
    show (if o' = o ∧ q' = q then u else W o' q') < _
    split
    · exact hu
    · exact h.hw o' q', h.hh⟩
theorem BM.setZ (h : BM w U p lo hi fr wb sz lw W) (o z : Nat) (ho : o < 10) :
    BM (w.setCell ⟨p, 3 + o * 3 + 1, none⟩ (.int .i64 (z : Int))) U p lo hi fr wb (fun o' => if o' = o then z else sz o') lw W :=
  have hp : ∀ j, 3 + o * 3 + 1 ≠ j → (w.setCell ⟨p, 3 + o * 3 + 1, none⟩ (.int .i64 (z : Int))).cell? ⟨p, j, none⟩ = w.cell? ⟨p, j, none⟩ := fun j hj => World.cell?_setCell_other _ _ _ _ (ne_addr (.inr hj))
  ⟨fun i hi => by rw [World.size_setCell]; exact h.own i hi, h.up, h.ub, h.u0, tab_set h.tab _ _ _ h.p0, (hp _ (by omega)).trans h.c0, (hp _ (by omega)).trans h.c1, (hp _ (by omega)).trans h.c2, fun o ho => (hp _ (by omega)).trans (h.cs o ho), fun o' ho' => by
    by_cases e : o' = o
    · subst e; rw [if_pos rfl, World.cell?_setCell_same _ _ _ (h.cz o' ho')]
    · rw [if_neg e]; exact (hp _ (by omega)).trans (h.cz o' ho'), fun o ho => (hp _ (by omega)).trans (h.cl o ho),
   fun j => by rw [World.frozen?_setCell]; exact h.fz j, fun o' ho' q' hq' => by rw [World.cell?_setCell_other _ _ _ _ (ne_addr (.inl (fun z => h.nb o' ho' z.symm)))]; exact h.cw o' ho' q' hq', fun o' ho' q' => by rw [World.frozen?_setCell]; exact h.fw o' ho' q', h.nb, h.inj, h.hw, h.hh⟩
theorem BM.setL (h : BM w U p lo hi fr wb sz lw W) (o z : Nat) (ho : o < 10) :
    BM (w.setCell ⟨p, 3 + o * 3 + 2, none⟩ (.int .i64 (z : Int))) U p lo hi fr wb sz (fun o' => if o' = o then z else lw o') W :=
  have hp : ∀ j, 3 + o * 3 + 2 ≠ j → (w.setCell ⟨p, 3 + o * 3 + 2, none⟩ (.int .i64 (z : Int))).cell? ⟨p, j, none⟩ = w.cell? ⟨p, j, none⟩ := fun j hj => World.cell?_setCell_other _ _ _ _ (ne_addr (.inr hj))
  ⟨fun i hi => by rw [World.size_setCell]; exact h.own i hi, h.up, h.ub, h.u0, tab_set h.tab _ _ _ h.p0, (hp _ (by omega)).trans h.c0, (hp _ (by omega)).trans h.c1, (hp _ (by omega)).trans h.c2, fun o ho => (hp _ (by omega)).trans (h.cs o ho), fun o ho => (hp _ (by omega)).trans (h.cz o ho), fun o' ho' => by
    by_cases e : o' = o
    · subst e; rw [if_pos rfl, World.cell?_setCell_same _ _ _ (h.cl o' ho')]
    · rw [if_neg e]; exact (hp _ (by omega)).trans (h.cl o' ho'),
   fun j => by rw [World.frozen?_setCell]; exact h.fz j, fun o' ho' q' hq' => by rw [World.cell?_setCell_other _ _ _ _ (ne_addr (.inl (fun z => h.nb o' ho' z.symm)))]; exact h.cw o' ho' q' hq', fun o' ho' q' => by rw [World.frozen?_setCell]; exact h.fw o' ho' q', h.nb, h.inj, h.hw, h.hh⟩
theorem BM.setF (h : BM w U p lo hi fr wb sz lw W) (z : Nat) :
    BM (w.setCell ⟨p, 2, none⟩ (.int .i64 (z : Int))) U p lo hi z wb sz lw W :=
  have hp : ∀ j, 2 ≠ j → (w.setCell ⟨p, 2, none⟩ (.int .i64 (z : Int))).cell? ⟨p, j, none⟩ = w.cell? ⟨p, j, none⟩ := fun j hj => World.cell?_setCell_other _ _ _ _ (ne_addr (.inr hj))
  ⟨fun i hi => by rw [World.size_setCell]; exact h.own i hi, h.up, h.ub, h.u0, tab_set h.tab _ _ _ h.p0, (hp _ (by omega)).trans h.c0, (hp _ (by omega)).trans h.c1, World.cell?_setCell_same _ _ _ h.c2, fun o ho => (hp _ (by omega)).trans (h.cs o ho), fun o ho => (hp _ (by omega)).trans (h.cz o ho), fun o ho => (hp _ (by omega)).trans (h.cl o ho),
   fun j => by rw [World.frozen?_setCell]; exact h.fz j, fun o' ho' q' hq' => by rw [World.cell?_setCell_other _ _ _ _ (ne_addr (.inl (fun z => h.nb o' ho' z.symm)))]; exact h.cw o' ho' q' hq', fun o' ho' q' => by rw [World.frozen?_setCell]; exact h.fw o' ho' q', h.nb, h.inj, h.hw, h.hh⟩
/-- A change of the cell 'low' of a set alone. -/
theorem BM.chL {w' : World} (h : BM w U p lo hi fr wb sz lw W) (o z : Nat) (ho : o < 10) (c : Ch (· = ⟨p, 3 + o * 3 + 2, none⟩) (· = p) w w') (hz : w'.cell? ⟨p, 3 + o * 3 + 2, none⟩ = some (.int .i64 (z : Int))) :
    BM w' U p lo hi fr wb sz (fun o' => if o' = o then z else lw o') W :=
  have hp : ∀ j, j ≠ 3 + o * 3 + 2 → w'.cell? ⟨p, j, none⟩ = w.cell? ⟨p, j, none⟩ := fun j hj => c.cell _ (ne_addr (.inr hj))
  ⟨fun i hi => by rw [c.size]; exact h.own i hi, h.up, h.ub, h.u0, h.tab.fr c.fr (fun e => h.p0 e.symm), (hp _ (by omega)).trans h.c0, (hp _ (by omega)).trans h.c1, (hp _ (by omega)).trans h.c2, fun o ho => (hp _ (by omega)).trans (h.cs o ho), fun o ho => (hp _ (by omega)).trans (h.cz o ho), fun o' ho' => by
    by_cases e : o' = o
    · subst e; rw [if_pos rfl]; exact hz
    · rw [if_neg e]; exact (hp _ (by omega)).trans (h.cl o' ho'),
   fun j => (c.frz _).trans (h.fz j), fun o' ho' q' hq' => (c.cell _ (ne_addr (.inl (h.nb o' ho')))).trans (h.cw o' ho' q' hq'), fun o' ho' q' => (c.frz _).trans (h.fw o' ho' q'), h.nb, h.inj, h.hw, h.hh⟩
end

/-- What the words tell. -/
structure SB (hi : Nat) (S : Nat → Nat → Bool) (sz lw : Nat → Nat) (W : Nat → Nat → Nat) : Prop where
  bit : ∀ o q b, o < 10 → b < 64 → (W o q).testBit b = S o (64 * q + b)
  dom : ∀ o i, o < 10 → S o i = true → i < hi / 2 ^ o
  cnt : ∀ o, o < 10 → sz o = cnt (S o) (hi / 2 ^ o)
  low : ∀ o i, o < 10 → S o i = true → lw o ≤ i / 64
/-- The buddy whose struct is block p: the frames lo to hi - 1; S o i: (o, i) is a free run; fr frames are free; all that is its own lies in U. -/
def BD (w : World) (U : Nat → Prop) (p lo hi : Nat) (S : Nat → Nat → Bool) (fr : Nat) : Prop := ∃ wb sz lw W, BM w U p lo hi fr wb sz lw W ∧ SB hi S sz lw W
def insS (S : Nat → Nat → Bool) (o i : Nat) : Nat → Nat → Bool := fun o' i' => if o' = o ∧ i' = i then true else S o' i'
def delS (S : Nat → Nat → Bool) (o i : Nat) : Nat → Nat → Bool := fun o' i' => if o' = o ∧ i' = i then false else S o' i'

theorem in_words {hi o i : Nat} (h : i < hi / 2 ^ o) : i / 64 < ln hi o := by unfold ln; omega
theorem pow_wrap {o : Nat} (h : o < 10) : wrap64 (2 ^ o) = ((2 ^ o : Nat) : Int) ∧ ((2 ^ o : Nat) : Int) ≤ 1000 := by
  have h1 : (2 ^ o : Nat) ≤ 2 ^ 9 := Nat.pow_le_pow_right (by omega) (by omega)
  have e : ((2 ^ o : Nat) : Int) = (2 : Int) ^ o := by push_cast; rfl
  rw [← e]
  clear e
  have h0 := Nat.two_pow_pos o
  generalize (2 ^ o : Nat) = s at *
  exact ⟨by unfold wrap64; omega, by omega⟩
theorem pow_word {r : Nat} (h : r < 64) : IntKind.u64.wrap (2 ^ r) = ((2 ^ r : Nat) : Int) ∧ 2 ^ r < 18446744073709551616 := by
  have h1 : (2 ^ r : Nat) < 2 ^ 64 := Nat.pow_lt_pow_right (by omega) h
  have e : ((2 ^ r : Nat) : Int) = (2 : Int) ^ r := by push_cast; rfl
  rw [← e, IntKind.wrap_u64]
  clear e
  have h0 := Nat.two_pow_pos r
  generalize (2 ^ r : Nat) = s at *
  exact ⟨by omega, h1⟩
theorem tdiv64 (x : Nat) : (x : Int).tdiv 64 = ((x / 64 : Nat) : Int) := by rw [Int.tdiv_eq_ediv_of_nonneg (by omega)]; omega
theorem tmod64 (x : Nat) : (x : Int).tmod 64 = ((x % 64 : Nat) : Int) := by rw [Int.tmod_eq_emod_of_nonneg (by omega)]; omega
theorem shr_nat (f o : Nat) : (f : Int) / 2 ^ o = ((f / 2 ^ o : Nat) : Int) := by push_cast; rfl
section
variable {w : World} {U : Nat → Prop} {p lo hi fr : Nat} {wb sz lw : Nat → Nat} {W : Nat → Nat → Nat} {S : Nat → Nat → Bool}
theorem shas_any (h : BM w U p lo hi fr wb sz lw W) (k : SB hi S sz lw W) (o i : Nat) (ho : o < 10) (hi' : i ≤ 2000000) :
    Calls Tryz.prog 139 #[.pointer (some ⟨p, 3 + o * 3, none⟩), .int .i64 (i : Int)] w fun e w' => e = .returned (.bool (S o i)) ∧ w' = w := by
  have hl := ln_le h.hh o
  by_cases c : i / 64 < ln hi o
  · refine shas_walk p (3 + o * 3) (wb o) (i / 64) (i % 64) (ln hi o) (W o (i / 64)) i (S o i) w (h.cs o ho) (tdiv64 i) (tmod64 i) (by omega) (by omega) (h.cw o ho _ c) ?_ (by omega)
    rw [shr_bit _ _ (h.hw _ _), k.bit o (i / 64) (i % 64) ho (by omega), show 64 * (i / 64) + i % 64 = i by omega]
  · have e : S o i = false := by
      cases hv : S o i
      · rfl
      · exact absurd (in_words (k.dom o i ho hv)) c
    rw [e]
    exact shas_out p (3 + o * 3) (wb o) (i / 64) (ln hi o) i w (h.cs o ho) (tdiv64 i) (by omega) (by omega)
theorem BM.fr_step {w' : World} (c : Fr (fun k => k = p ∨ ∃ o, o < 10 ∧ k = wb o) w w') (h : BM w U p lo hi fr wb sz lw W) : Fr U w w' := c.mono (fun k _ hk => by
  rcases hk with rfl | ⟨o, ho, rfl⟩
  · exact h.up
  · exact h.ub o ho)
theorem badd_ok (h : BD w U p lo hi S fr) (o i f : Nat) (ho : o < 10) (hi' : i < hi / 2 ^ o) (hS : S o i = false) (hf : f / 2 ^ o = i) (hfr : fr ≤ 1048576) :
    Calls Tryz.prog 103 #[.pointer (some ⟨p, 0, none⟩), .int .i64 (f : Int), .int .i64 (o : Int)] w fun e w' => e = .returned (.tuple #[]) ∧ BD w' U p lo hi (insS S o i) (fr + 2 ^ o) ∧ Fr U w w' := by
  obtain ⟨wb, sz, lw, W, h, k⟩ := h
  have hl := ln_le h.hh o
  have hq := in_words hi'
  obtain ⟨e1, e2⟩ := pow_wrap ho
  obtain ⟨e3, e4⟩ := pow_word (show i % 64 < 64 by omega)
  have hd := h.drew
  have hz : sz o ≤ 1048576 := by
    rw [k.cnt o ho]
    exact Nat.le_trans (cnt_le _ _) (Nat.le_trans (Nat.div_le_self _ _) h.hh)
  have hor := u64_or_nat (W o (i / 64)) (2 ^ (i % 64)) (h.hw _ _) e4
  have hol : W o (i / 64) ||| 2 ^ (i % 64) < 18446744073709551616 := Nat.or_lt_two_pow (n := 64) (h.hw _ _) e4
  have cA := sadd_walk p (3 + o * 3) (wb o) (i / 64) (i % 64) (ln hi o) (W o (i / 64)) (W o (i / 64) ||| 2 ^ (i % 64)) (2 ^ (i % 64)) (sz o) (lw o) i w.drew (hd.cs o ho) (hd.cz o ho) (hd.cl o ho) (hd.fz _) (hd.fz _) (hd.fw o ho _) (hd.nb o ho) (tdiv64 i) (tmod64 i) (by omega) (by omega) (hd.cw o ho _ hq) e3 hor (by omega) (by omega)
  have b1 := ((hd.setW o (i / 64) _ ho hq hol).setZ o (sz o + 1) ho).setL o (min (lw o) (i / 64)) ho
  refine (badd_walk p o f i fr (2 ^ o) w _ (by omega) (by rw [shr_nat, hf]) e1 (by omega) e2 cA (fun w' hw' => ?_)).mono fun e w' ⟨r1, w1, r2, r3⟩ => ⟨r1, ?_, ?_⟩
  · subst hw'
    exact ⟨b1.drew.c2, b1.drew.fz _⟩
  · subst r2; subst r3
    have b2 := (b1.drew.setF (fr + 2 ^ o)).drew
    refine ⟨wb, _, _, _, b2, ⟨fun o' q' b' ho' hb' => ?_, fun o' i' ho' hi'' => ?_, fun o' ho' => ?_, fun o' i' ho' hi'' => ?_⟩⟩
    · show (if o' = o ∧ q' = i / 64 then _ else _ : Nat).testBit b' = (if o' = o ∧ 64 * q' + b' = i then true else S o' (64 * q' + b'))
      by_cases c : o' = o ∧ q' = i / 64
      · rw [if_pos c, Nat.testBit_or, Nat.testBit_two_pow]
        obtain ⟨rfl, rfl⟩ := c
        rw [k.bit _ _ _ ho' hb']
        by_cases d : i % 64 = b'
        · rw [decide_eq_true d, if_pos ⟨rfl, by omega⟩, Bool.or_true]
        · rw [decide_eq_false d, if_neg (fun z => d (by omega)), Bool.or_false]
      · rw [if_neg c, k.bit _ _ _ ho' hb', if_neg (fun z => c ⟨z.1, by omega⟩)]
    · by_cases c : o' = o ∧ i' = i
      · rw [c.1, c.2]; exact hi'
      · refine k.dom o' i' ho' ?_
        have : (if o' = o ∧ i' = i then true else S o' i') = true := hi''
        rwa [if_neg c] at this
    · show (if o' = o then _ else _ : Nat) = cnt (fun i' => if o' = o ∧ i' = i then true else S o' i') _
      by_cases c : o' = o
      · subst c
        rw [if_pos rfl, k.cnt o' ho']
        exact (cnt_on (F := S o') (G := fun i' => if o' = o' ∧ i' = i then true else S o' i') (x := i) hS (fun k' => by simp) _ hi').symm
      · rw [if_neg c, k.cnt o' ho']
        exact (cnt_like _ (fun k' _ => by simp [c])).symm
    · show (if o' = o then _ else _ : Nat) ≤ _
      have hv : (if o' = o ∧ i' = i then true else S o' i') = true := hi''
      by_cases c : o' = o
      · subst c
        rw [if_pos rfl]
        by_cases d : i' = i
        · subst d; omega
        · rw [if_neg (fun z => d z.2)] at hv
          have := k.low o' i' ho' hv
          omega
      · rw [if_neg c]
        rw [if_neg (fun z => c z.1)] at hv
        exact k.low o' i' ho' hv
  · subst r2; subst r3
    refine ((((((Fr.refl U w).drew.set _ _ (h.ub o ho)).set _ _ h.up).set _ _ h.up).drew).set _ _ h.up).drew
theorem brem_ok (h : BD w U p lo hi S fr) (o i f : Nat) (ho : o < 10) (hS : S o i = true) (hf : f / 2 ^ o = i) (hfr : fr ≤ 1048576) (hfr2 : 2 ^ o ≤ fr) :
    Calls Tryz.prog 127 #[.pointer (some ⟨p, 0, none⟩), .int .i64 (f : Int), .int .i64 (o : Int)] w fun e w' => e = .returned (.tuple #[]) ∧ BD w' U p lo hi (delS S o i) (fr - 2 ^ o) ∧ Fr U w w' := by
  obtain ⟨wb, sz, lw, W, h, k⟩ := h
  have hl := ln_le h.hh o
  have hi' := k.dom o i ho hS
  have hq := in_words hi'
  obtain ⟨e1, e2⟩ := pow_wrap ho
  obtain ⟨e3, e4⟩ := pow_word (show i % 64 < 64 by omega)
  have hd := h.drew
  have hcd : cnt (delS S o i o) (hi / 2 ^ o) + 1 = cnt (S o) (hi / 2 ^ o) := (cnt_on (F := delS S o i o) (G := S o) (x := i) (by simp [delS]) (fun k' => by
    by_cases e : k' = i
    · subst e; simp [hS]
    · simp [delS, e]) _ hi').symm
  have hz : sz o ≤ 1048576 ∧ 1 ≤ sz o := by
    rw [k.cnt o ho]
    exact ⟨Nat.le_trans (cnt_le _ _) (Nat.le_trans (Nat.div_le_self _ _) h.hh), by omega⟩
  have han := u64_andNot_nat (W o (i / 64)) (2 ^ (i % 64)) (h.hw _ _) e4
  have hal : W o (i / 64) &&& (18446744073709551615 - 2 ^ (i % 64)) < 18446744073709551616 := Nat.lt_of_le_of_lt Nat.and_le_left (h.hw _ _)
  have cA := srem_walk p (3 + o * 3) (wb o) (i / 64) (i % 64) (ln hi o) (W o (i / 64)) (W o (i / 64) &&& (18446744073709551615 - 2 ^ (i % 64))) (2 ^ (i % 64)) (sz o) i w.drew (hd.cs o ho) (hd.cz o ho) (hd.fz _) (hd.fw o ho _) (hd.nb o ho) (tdiv64 i) (tmod64 i) (by omega) (by omega) (hd.cw o ho _ hq) e3 han (by omega) (by omega)
  have ez : ((sz o : Nat) : Int) - 1 = ((sz o - 1 : Nat) : Int) := by omega
  rw [ez] at cA
  have b1 := (hd.setW o (i / 64) _ ho hq hal).setZ o (sz o - 1) ho
  refine (brem_walk p o f i fr (2 ^ o) w _ (by omega) (by rw [shr_nat, hf]) e1 (by omega) e2 cA (fun w' hw' => ?_)).mono fun e w' ⟨r1, w1, r2, r3⟩ => ⟨r1, ?_, ?_⟩
  · subst hw'
    exact ⟨b1.drew.c2, b1.drew.fz _⟩
  · subst r2
    rw [show ((fr : Nat) : Int) - ((2 ^ o : Nat) : Int) = ((fr - 2 ^ o : Nat) : Int) by omega] at r3
    subst r3
    have b2 := (b1.drew.setF (fr - 2 ^ o)).drew
    refine ⟨wb, _, _, _, b2, ⟨fun o' q' b' ho' hb' => ?_, fun o' i' ho' hi'' => ?_, fun o' ho' => ?_, fun o' i' ho' hi'' => ?_⟩⟩
    · show (if o' = o ∧ q' = i / 64 then _ else _ : Nat).testBit b' = (if o' = o ∧ 64 * q' + b' = i then false else S o' (64 * q' + b'))
      by_cases c : o' = o ∧ q' = i / 64
      · rw [if_pos c, Nat.testBit_and, show 18446744073709551615 - 2 ^ (i % 64) = 2 ^ 64 - (2 ^ (i % 64) + 1) by omega, Nat.testBit_two_pow_sub_succ e4, Nat.testBit_two_pow]
        obtain ⟨rfl, rfl⟩ := c
        rw [k.bit _ _ _ ho' hb', decide_eq_true hb', Bool.true_and]
        by_cases d : i % 64 = b'
        · rw [decide_eq_true d, if_pos ⟨rfl, by omega⟩]; simp
        · rw [decide_eq_false d, if_neg (fun z => d (by omega))]; simp
      · rw [if_neg c, k.bit _ _ _ ho' hb', if_neg (fun z => c ⟨z.1, by omega⟩)]
    · have hv : (if o' = o ∧ i' = i then false else S o' i') = true := hi''
      by_cases c : o' = o ∧ i' = i
      · rw [if_pos c] at hv; cases hv
      · rw [if_neg c] at hv; exact k.dom o' i' ho' hv
    · show (if o' = o then _ else _ : Nat) = cnt (delS S o i o') _
      by_cases c : o' = o
      · subst c
        rw [if_pos rfl, k.cnt o' ho']; omega
      · rw [if_neg c, k.cnt o' ho']
        exact (cnt_like _ (fun k' _ => by simp [delS, c])).symm
    · have hv : (if o' = o ∧ i' = i then false else S o' i') = true := hi''
      by_cases c : o' = o ∧ i' = i
      · rw [if_pos c] at hv; cases hv
      · rw [if_neg c] at hv; exact k.low o' i' ho' hv
  · subst r2; subst r3
    refine (((((Fr.refl U w).drew.set _ _ (h.ub o ho)).set _ _ h.up).drew).set _ _ h.up).drew
end
end Go.Proofs.YtanlcmdnhhdhaaaGreatDoor

/- buddy.Buddy: Has, Free, owns, anyFree. -/
namespace Go.Proofs.YtanlcmdnhhdhaaaGreatDoor
open Go.RowKit

/-- The buddy at p has the frames lo to hi - 1, of which those of F are free. -/
structure BF (w : World) (U : Nat → Prop) (p lo hi : Nat) (F : Nat → Bool) : Prop where
  bd : BD w U p lo hi (rn F) (cnt F hi)
  dom : ∀ k, F k = true → lo ≤ k ∧ k < hi
  le : lo ≤ hi
theorem BD.like {w : World} {U : Nat → Prop} {p lo hi fr fr' : Nat} {S S' : Nat → Nat → Bool} (h : BD w U p lo hi S fr) (hS : ∀ o i, o < 10 → S' o i = S o i) (hf : fr' = fr) : BD w U p lo hi S' fr' := by
  subst hf
  obtain ⟨wb, sz, lw, W, h, k⟩ := h
  exact ⟨wb, sz, lw, W, h, ⟨fun o q b ho hb => by rw [k.bit o q b ho hb, hS _ _ ho], fun o i ho hi => k.dom o i ho (by rw [← hS _ _ ho]; exact hi), fun o ho => by rw [k.cnt o ho]; exact (cnt_like _ (fun i _ => hS o i ho)).symm, fun o i ho hi => k.low o i ho (by rw [← hS _ _ ho]; exact hi)⟩⟩
theorem BD.fr {w w' : World} {U X : Nat → Prop} {p lo hi fr : Nat} {S : Nat → Nat → Bool} (h : BD w U p lo hi S fr) (k : Fr X w w') (hX : ∀ i, U i → ¬ X i) (hX0 : ¬ X 1) : BD w' U p lo hi S fr := by
  obtain ⟨wb, sz, lw, W, h, s⟩ := h
  exact ⟨wb, sz, lw, W, h.fr' k hX hX0, s⟩
section
variable {w : World} {U : Nat → Prop} {p lo hi : Nat} {F : Nat → Bool}
theorem BF.fr {w' : World} (h : BF w U p lo hi F) {X : Nat → Prop} (k : Fr X w w') (hX : ∀ i, U i → ¬ X i) (hX0 : ¬ X 1) : BF w' U p lo hi F := ⟨h.bd.fr k hX hX0, h.dom, h.le⟩
theorem BF.kp {w' : World} (h : BF w U p lo hi F) (k : Kp w w') : BF w' U p lo hi F := h.fr (k.fr (fun _ => False)) (fun _ _ => id) id
theorem BF.own (h : BF w U p lo hi F) : ∀ k, U k → k < w.heap.size := by
  obtain ⟨wb, sz, lw, W, h, s⟩ := h.bd
  exact h.own
theorem BF.hh (h : BF w U p lo hi F) : hi ≤ 1048576 := by
  obtain ⟨wb, sz, lw, W, h, s⟩ := h.bd
  exact h.hh
theorem BF.tab (h : BF w U p lo hi F) : TAB w := by
  obtain ⟨wb, sz, lw, W, h, s⟩ := h.bd
  exact h.tab
theorem BF.u0 (h : BF w U p lo hi F) : ¬ U 1 := by
  obtain ⟨wb, sz, lw, W, h, s⟩ := h.bd
  exact h.u0
theorem BF.up (h : BF w U p lo hi F) : U p := by
  obtain ⟨wb, sz, lw, W, h, s⟩ := h.bd
  exact h.up
theorem BF.c (h : BF w U p lo hi F) : w.cell? ⟨p, 0, none⟩ = some (.int .i64 (lo : Int)) ∧ w.cell? ⟨p, 1, none⟩ = some (.int .i64 (hi : Int)) ∧ w.cell? ⟨p, 2, none⟩ = some (.int .i64 (cnt F hi : Int)) := by
  obtain ⟨wb, sz, lw, W, h, s⟩ := h.bd
  exact ⟨h.c0, h.c1, h.c2⟩
theorem BF.shas (h : BF w U p lo hi F) (f : Nat) (hf : f ≤ 2000000) : ∀ k w', k < 10 → Dr w w' → Calls Tryz.prog 139 #[.pointer (some ⟨p, 3 + k * 3, none⟩), .int .i64 ((f / 2 ^ k : Nat) : Int)] w' fun e w'' => e = .returned (.bool (rn F k (f / 2 ^ k))) ∧ w'' = w' := fun k w' hk hd => by
  obtain ⟨wb, sz, lw, W, h, s⟩ := h.bd
  obtain ⟨m, rfl⟩ := hd
  exact shas_any (h.drewN m) s k _ hk (Nat.le_trans (Nat.div_le_self _ _) hf)
theorem around_in (h : BF w U p lo hi F) (f o : Nat) (hf : f ≤ 2000000) (ho : o ≤ 9) (hr : Rn F o (f / 2 ^ o)) :
    Calls Tryz.prog 148 #[.pointer (some ⟨p, 0, none⟩), .int .i64 (f : Int)] w fun e w' => e = .returned (.int .i64 (o : Int)) ∧ Dr w w' :=
  around_walk p f o (fun k => rn F k (f / 2 ^ k)) w (h.shas f hf) (by omega) (fun k hk => (rn_false ..).2 (fun c => by have := run_one (by omega) ho c hr; omega)) (fun _ => (rn_iff ..).2 hr)
theorem around_out (h : BF w U p lo hi F) (f : Nat) (hf : f ≤ 2000000) (hF : F f = false) :
    Calls Tryz.prog 148 #[.pointer (some ⟨p, 0, none⟩), .int .i64 (f : Int)] w fun e w' => e = .returned (.int .i64 10) ∧ Dr w w' :=
  around_walk p f 10 (fun k => rn F k (f / 2 ^ k)) w (h.shas f hf) (by omega) (fun k hk => (rn_false ..).2 (fun c => by have := c.1 f rfl; rw [hF] at this; cases this)) (fun h => by omega)
theorem around_any (h : BF w U p lo hi F) (f : Nat) (hf : f ≤ 2000000) : ∃ r : Nat, (Calls Tryz.prog 148 #[.pointer (some ⟨p, 0, none⟩), .int .i64 (f : Int)] w fun e w' => e = .returned (.int .i64 (r : Int)) ∧ Dr w w') ∧ ((r ≤ 9 ∧ F f = true ∧ Rn F r (f / 2 ^ r)) ∨ (r = 10 ∧ F f = false)) := by
  cases hF : F f
  · exact ⟨10, around_out h f hf hF, .inr ⟨rfl, rfl⟩⟩
  · obtain ⟨o, ho, hr⟩ := run_of hF
    exact ⟨o, around_in h f o hf ho hr, .inl ⟨ho, rfl, hr⟩⟩

def hasB (F : Nat → Bool) (x : Int) : Bool := decide (0 ≤ x) && F x.toNat
theorem hasB_nat (F : Nat → Bool) (x : Nat) : hasB F (x : Int) = F x := by unfold hasB; simp
set_option maxHeartbeats 1000000 in
theorem has_any (h : BF w U p lo hi F) (x : Int) :
    Calls Tryz.prog 147 #[.pointer (some ⟨p, 0, none⟩), .int .i64 x] w fun e w' => e = .returned (.bool (hasB F x)) ∧ Dr w w' := by
  obtain ⟨c0, c1, _⟩ := h.c
  by_cases d1 : x < lo
  · have e : hasB F x = false := by
      unfold hasB
      by_cases c : 0 ≤ x
      · rw [decide_eq_true c, Bool.true_and]
        cases hv : F x.toNat
        · rfl
        · have := (h.dom _ hv).1; omega
      · rw [decide_eq_false c]; rfl
    rw [e]
    clear h e
    go_enter Tryz.func147, Tryz.ntmps147
    go_wp2
    go_ret
    exact ⟨rfl, Dr.refl _⟩
  · by_cases d2 : x < hi
    · have y1 : (0 : Int) ≤ x := by omega
      have hh := h.hh
      obtain ⟨r, c3, hr⟩ := around_any h x.toNat (by omega)
      rw [show ((x.toNat : Nat) : Int) = x by omega] at c3
      have e : hasB F x = (decide ((0 : Int) ≤ r) && decide ((r : Int) ≤ 9)) := by
        unfold hasB
        rw [decide_eq_true y1, decide_eq_true (by omega), Bool.true_and, Bool.true_and]
        rcases hr with ⟨h1, h2, _⟩ | ⟨h1, h2⟩
        · rw [h2, decide_eq_true (by omega)]
        · rw [h2, decide_eq_false (by omega)]
      rw [e]
      have c4 := fun w => isOrder_any (r : Int) w
      clear h hr e
      generalize (decide ((0 : Int) ≤ r) && decide ((r : Int) ≤ 9)) = b at *
      go_enter Tryz.func147, Tryz.ntmps147
      go_wp2_with (first | (go_at_call 148; go_must (with_reducible refine c3.mono ?_); rintro e w1 ⟨rfl, D1⟩) | (go_at_call 124; go_must (with_reducible refine (c4 _).mono ?_); rintro e w' ⟨rfl, rfl⟩))
      go_ret
      exact ⟨rfl, D1⟩
    · have e : hasB F x = false := by
        unfold hasB
        cases hv : F x.toNat
        · rw [Bool.and_false]
        · have := (h.dom _ hv).2; omega
      rw [e]
      clear h e
      go_enter Tryz.func147, Tryz.ntmps147
      go_wp2
      go_ret
      exact ⟨rfl, Dr.refl _⟩
theorem free_any (h : BF w U p lo hi F) :
    Calls Tryz.prog 44 #[.pointer (some ⟨p, 0, none⟩)] w fun e w' => e = .returned (.int .i64 (cnt F hi : Int)) ∧ w' = w := by
  obtain ⟨_, _, c2⟩ := h.c
  clear h
  generalize cnt F hi = n at *
  go_enter Tryz.func44, Tryz.ntmps44
  go_wp2
  go_ret
  exact ⟨rfl, rfl⟩

/-- Is there such a run, and are its frames all the buddy's? -/
def owns (lo hi : Nat) (x o : Int) : Bool := decide (0 ≤ o ∧ o ≤ 9 ∧ x.tmod (2 ^ o.toNat) = 0 ∧ (lo : Int) ≤ x ∧ x ≤ (hi : Int) - 2 ^ o.toNat)
set_option maxHeartbeats 1000000 in
theorem owns_walk (lo hi s o : Nat) (x m : Int) (p : Nat) (w : World) (c0 : w.cell? ⟨p, 0, none⟩ = some (.int .i64 (lo : Int))) (c1 : w.cell? ⟨p, 1, none⟩ = some (.int .i64 (hi : Int)))
    (hs : wrap64 (2 ^ o) = (s : Int)) (s0 : (0 : Int) < s) (s1 : (s : Int) ≤ 1000) (ho : (o : Int) < 10) (hi' : (hi : Int) ≤ 1048576) (hm : x.tmod s = m) (b : Bool) (hb : (decide (m = 0) && decide ((lo : Int) ≤ x) && decide (x ≤ (hi : Int) - s)) = b) :
    Calls Tryz.prog 137 #[.pointer (some ⟨p, 0, none⟩), .int .i64 x, .int .i64 (o : Int)] w fun e w' => e = .returned (.bool b) ∧ w' = w := by
  have c4 := fun w => isOrder_any (o : Int) w
  rw [decide_eq_true (by omega), decide_eq_true (by omega), Bool.true_and] at c4
  have z : ¬ (s : Int) = 0 := by omega
  by_cases d1 : m = 0
  · by_cases d2 : (lo : Int) ≤ x
    · by_cases d3 : x ≤ (hi : Int) - s
      · rw [decide_eq_true d1, decide_eq_true d2, decide_eq_true d3] at hb
        have hb' : true = b := hb
        subst hb'
        clear hb
        go_enter Tryz.func137, Tryz.ntmps137
        go_wp2_with (first | (go_at_call 124; go_must (with_reducible refine (c4 _).mono ?_); rintro e w' ⟨rfl, rfl⟩))
        go_ret
        exact ⟨rfl, rfl⟩
      · rw [decide_eq_true d1, decide_eq_true d2, decide_eq_false d3] at hb
        have hb' : false = b := hb
        subst hb'
        have D3 : Hid (¬ x ≤ (hi : Int) - s) := d3
        clear hb
        go_enter Tryz.func137, Tryz.ntmps137
        go_wp2_with (first | (go_at_call 124; go_must (with_reducible refine (c4 _).mono ?_); rintro e w' ⟨rfl, rfl⟩))
        go_ret
        exact ⟨by rw [decide_eq_false (show ¬ x ≤ (hi : Int) - s by have := D3.out; omega)]; rfl, rfl⟩
    · rw [decide_eq_true d1, decide_eq_false d2] at hb
      have hb' : false = b := hb
      subst hb'
      clear hb
      go_enter Tryz.func137, Tryz.ntmps137
      go_wp2_with (first | (go_at_call 124; go_must (with_reducible refine (c4 _).mono ?_); rintro e w' ⟨rfl, rfl⟩))
      go_ret
      exact ⟨rfl, rfl⟩
  · rw [decide_eq_false d1] at hb
    have hb' : false = b := hb
    subst hb'
    have d2 : (m == 0) = false := by simpa using d1
    clear hb d1
    go_enter Tryz.func137, Tryz.ntmps137
    go_wp2_with (first | (go_at_call 124; go_must (with_reducible refine (c4 _).mono ?_); rintro e w' ⟨rfl, rfl⟩))
    go_ret
    exact ⟨rfl, rfl⟩
theorem owns_no (x o : Int) (p : Nat) (w : World) (h : ¬ (0 ≤ o ∧ o ≤ 9)) :
    Calls Tryz.prog 137 #[.pointer (some ⟨p, 0, none⟩), .int .i64 x, .int .i64 o] w fun e w' => e = .returned (.bool false) ∧ w' = w := by
  have c4 := fun w => isOrder_any o w
  rw [show (decide (0 ≤ o) && decide (o ≤ 9)) = false by
    by_cases c : 0 ≤ o
    · rw [decide_eq_false (by omega : ¬ o ≤ 9), Bool.and_false]
    · rw [decide_eq_false c]; rfl] at c4
  clear h
  go_enter Tryz.func137, Tryz.ntmps137
  go_wp2_with (first | (go_at_call 124; go_must (with_reducible refine (c4 _).mono ?_); rintro e w' ⟨rfl, rfl⟩))
  go_ret
  exact ⟨rfl, rfl⟩
theorem owns_any (h : BF w U p lo hi F) (x o : Int) :
    Calls Tryz.prog 137 #[.pointer (some ⟨p, 0, none⟩), .int .i64 x, .int .i64 o] w fun e w' => e = .returned (.bool (owns lo hi x o)) ∧ w' = w := by
  by_cases c : 0 ≤ o ∧ o ≤ 9
  · obtain ⟨k, rfl⟩ : ∃ k : Nat, o = (k : Int) := ⟨o.toNat, by omega⟩
    obtain ⟨e1, e2⟩ := pow_wrap (show k < 10 by omega)
    have hp := Nat.two_pow_pos k
    have es : ((2 ^ k : Nat) : Int) = (2 : Int) ^ k := by push_cast; rfl
    obtain ⟨c0, c1, _⟩ := h.c
    have hh := h.hh
    refine owns_walk lo hi (2 ^ k) k x (x.tmod ((2 ^ k : Nat) : Int)) p w c0 c1 e1 (by omega) e2 (by omega) (by omega) rfl _ ?_
    unfold owns
    rw [Int.toNat_natCast, ← es, ← Bool.decide_and, ← Bool.decide_and]
    apply decide_eq_decide.2
    constructor
    · rintro ⟨⟨h1, h2⟩, h3⟩; exact ⟨by omega, by omega, h1, h2, h3⟩
    · rintro ⟨_, _, h1, h2, h3⟩; exact ⟨⟨h1, h2⟩, h3⟩
  · rw [show owns lo hi x o = false by unfold owns; exact decide_eq_false (fun z => c ⟨z.1, z.2.1⟩)]
    exact owns_no x o p w c
set_option maxHeartbeats 1000000 in
theorem anyFree_walk (h : BF w U p lo hi F) (f o m : Nat) (ho : o < 10) (hf : f ≤ 1048576) (hm : m ≤ 2 ^ o) (h1 : ∀ i, i < m → F (f + i) = false) (h2 : m < 2 ^ o → F (f + m) = true) :
    Calls Tryz.prog 138 #[.pointer (some ⟨p, 0, none⟩), .int .i64 (f : Int), .int .i64 (o : Int)] w fun e w' => e = .returned (.bool (decide (m < 2 ^ o))) ∧ Dr w w' := by
  obtain ⟨e1, e2⟩ := pow_wrap ho
  have HH : Hid (BF w U p lo hi F) := h
  have H1 : Aside (∀ i, i < m → F (f + i) = false) := h1
  clear h h1
  have y0 : (o : Int) < 10 := by omega
  have y1 : (f : Int) ≤ 1048576 := by omega
  generalize 2 ^ o = s at *
  have y2 : (m : Int) ≤ s := by omega
  have H2 : Hid (m < s → F (f + m) = true) := h2
  clear h2
  go_enter Tryz.func138, Tryz.ntmps138
  go_wp2_with fail
  simp only [e1]
  clear e1
  go_loopg [10] (m + 1) (fun g v10 wr => ∃ k : Nat, v10 = .int .i64 (k : Int) ∧ k ≤ m ∧ m + 1 - k ≤ g ∧ Hid (Dr w wr))
  case atStart => exact ⟨0, rfl, by omega, by omega, Dr.refl w⟩
  case round =>
    obtain ⟨k, rfl, k2, hg, HD⟩ := hrel
    by_cases e : k < s
    · have y3 : (k : Int) < s := by omega
      have c1 := has_any (HH.out.kp HD.out.kp) ((f : Int) + k)
      rw [show (f : Int) + k = ((f + k : Nat) : Int) by omega, hasB_nat] at c1
      rw [show ((f + k : Nat) : Int) = (f : Int) + k by omega] at c1
      by_cases d : k < m
      · rw [H1.out k d] at c1
        go_wp2_with (first | (go_at_call 147; go_must (with_reducible refine c1.mono ?_); rintro e w1 ⟨rfl, D1⟩))
        have HD1 : Hid (Dr w w1) := HD.out.trans D1
        clear D1
        go_roundg (m + 1 - (k + 1))
        case measure => omega
        case rel => exact ⟨k + 1, by go_num, by omega, by omega, HD1⟩
      · have ek : k = m := by omega
        subst ek
        rw [H2.out e] at c1
        have HE : Hid (k < s) := e
        clear e
        go_wp2_with (first | (go_at_call 147; go_must (with_reducible refine c1.mono ?_); rintro e w1 ⟨rfl, D1⟩))
        go_ret
        exact ⟨by rw [decide_eq_true HE.out]; rfl, HD.out.trans D1⟩
    · have ek : k = m := by omega
      have es : k = s := by omega
      subst ek; subst es
      go_wp2
      go_ret
      exact ⟨by rw [decide_eq_false (Nat.lt_irrefl _)]; rfl, HD.out⟩
/-- Is one of n frames free? The first one, or n. -/
def fst (F : Nat → Bool) (f : Nat) : Nat → Nat
  | 0 => 0
  | n + 1 => if fst F f n < n then fst F f n else if F (f + n) then n else n + 1
theorem fst_spec (F : Nat → Bool) (f : Nat) : ∀ n, fst F f n ≤ n ∧ (∀ i, i < fst F f n → F (f + i) = false) ∧ (fst F f n < n → F (f + fst F f n) = true)
  | 0 => ⟨Nat.le_refl _, fun i hi => by simp [fst] at hi, fun h => by simp [fst] at h⟩
  | n + 1 => by
    obtain ⟨h1, h2, h3⟩ := fst_spec F f n
    unfold fst
    by_cases c : fst F f n < n
    · rw [if_pos c]; exact ⟨by omega, h2, fun _ => h3 c⟩
    · rw [if_neg c]
      have e : fst F f n = n := by omega
      rw [e] at h2
      cases hv : F (f + n)
      · rw [if_neg (by decide)]
        refine ⟨Nat.le_refl _, fun i hi => ?_, fun h => by omega⟩
        by_cases d : i = n
        · rw [d]; exact hv
        · exact h2 i (by omega)
      · rw [if_pos rfl]
        exact ⟨by omega, h2, fun _ => hv⟩
def anyF (F : Nat → Bool) (f o : Nat) : Bool := decide (fst F f (2 ^ o) < 2 ^ o)
theorem anyF_false {F : Nat → Bool} {f o : Nat} (h : anyF F f o = false) : ∀ i, i < 2 ^ o → F (f + i) = false := fun i hi => by
  have := of_decide_eq_false h
  obtain ⟨h1, h2, h3⟩ := fst_spec F f (2 ^ o)
  exact h2 i (by omega)
theorem anyF_true {F : Nat → Bool} {f o : Nat} (h : anyF F f o = true) : ∃ i, i < 2 ^ o ∧ F (f + i) = true := by
  have := of_decide_eq_true h
  exact ⟨_, this, (fst_spec F f (2 ^ o)).2.2 this⟩
theorem anyFree_any (h : BF w U p lo hi F) (f o : Nat) (ho : o < 10) (hf : f ≤ 1048576) :
    Calls Tryz.prog 138 #[.pointer (some ⟨p, 0, none⟩), .int .i64 (f : Int), .int .i64 (o : Int)] w fun e w' => e = .returned (.bool (anyF F f o)) ∧ Dr w w' :=
  anyFree_walk h f o (fst F f (2 ^ o)) ho hf (fst_spec F f (2 ^ o)).1 (fst_spec F f (2 ^ o)).2.1 (fst_spec F f (2 ^ o)).2.2
end
end Go.Proofs.YtanlcmdnhhdhaaaGreatDoor
