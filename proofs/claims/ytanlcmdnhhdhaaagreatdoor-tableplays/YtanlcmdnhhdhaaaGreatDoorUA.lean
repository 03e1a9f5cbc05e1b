/- buddy.New. -/
import Derived.Test.YtanlcmdnhhdhaaaGreatDoorJ13
import Derived.Deep.DeepCutAuto
namespace Go.Proofs.YtanlcmdnhhdhaaaGreatDoor
open Go.RowKit

theorem info_u64 : ∃ i, Tryz.prog.info? 37 = some i ∧ i.zero = some (.int .u64 0) ∧ i.size = 1 ∧ i.bytes = 8 := by
  have h : (Tryz.prog.info? 37).map (fun i => (i.zero, i.size, i.bytes)) = some (some (.int .u64 0), 1, 8) := by kernel_rfl
  obtain ⟨i, hi, e⟩ := Option.map_eq_some_iff.1 h
  simp only [Prod.mk.injEq] at e
  exact ⟨i, hi, e.1, e.2.1, e.2.2⟩
/-- n noughts. -/
def zeroW (n : Nat) : Array Value := madeCells #[Value.int .u64 0] n
theorem zeroW_get (n i : Nat) (h : i < n) : (zeroW n)[i]? = some (.int .u64 0) := by simp [zeroW, madeCells, h, Nat.mod_one]
theorem make_words (n : Nat) (w : World) (hn : n ≤ 1000000) :
    (Instr.makeSlice 100 (.int .i64 (n : Int)) (.int .i64 (n : Int))).run Tryz.prog w = .ok (.slice (some ⟨w.heap.size, 0, none⟩) n n) (w.alloc (.cells (zeroW n) 37)) := by
  obtain ⟨i0, hi, hz0, hz1, hz2⟩ := info_u64
  have := run_make (P := Tryz.prog) w 100 37 i0 (.int .u64 0) Tryz.underlying100 hi hz0 .i64 .i64 n n (by omega) (by omega) (by rw [hz2]; omega) (by omega)
  rw [hz1, Nat.mul_one] at this
  exact this
/-- Block b is n noughts. -/
def ZW (w : World) (b n : Nat) : Prop := w.heap[b]? = some (.cells (zeroW n) 37 (0, 0))
set_option maxHeartbeats 1000000 in
theorem newSet_any (b n : Nat) (w : World) (hb : (b : Int) ≤ 1048576) (hn : ((b : Int) + 64 - 1) / 64 = (n : Int)) (h1 : n ≤ 20000) :
    Calls Tryz.prog 101 #[.int .i64 (b : Int)] w fun e w' => (∃ g, e = .returned (.agg #[.slice (some ⟨g, 0, none⟩) n n, .int .i64 0, .int .i64 0]) ∧ ZW w' g n ∧ w.heap.size ≤ g) ∧ Kp w w' := by
  have hmk := fun w => make_words n w (by omega)
  have y1 : (n : Int) ≤ 20000 := by omega
  generalize hz : zeroW n = z at *
  go_enter Tryz.func101, Tryz.ntmps101
  go_wp2
  have e1 : (w.alloc (.cells #[.slice (some ⟨w.heap.size + 1, 0, none⟩) n n, .int .i64 0, .int .i64 0] 144)).heap.size = w.heap.size + 1 := by simp
  have g0 := ((Kp.refl (w.alloc (.cells #[.slice (some ⟨w.heap.size + 1, 0, none⟩) n n, .int .i64 0, .int .i64 0] 144))).alloc (.cells z 37)).block w.heap.size (by omega)
  rw [heap_alloc_new] at g0
  refine bodyPost_ret (results_cell_row rfl _ _ w.heap.size 144 _ (0, 0) _ rfl g0 Tryz.underlying144 rfl (by kernel_rfl)) rfl ?_
  refine ⟨⟨w.heap.size + 1, rfl, ?_, by omega⟩, ((Kp.refl w).alloc _).alloc _⟩
  have g1 := heap_alloc_new (w.alloc (.cells #[.slice (some ⟨w.heap.size + 1, 0, none⟩) n n, .int .i64 0, .int .i64 0] 144)) (.cells z 37)
  rw [e1] at g1
  unfold ZW
  rw [hz]
  exact g1

/-- The sets of the orders below k are made. -/
structure NB (w0 w : World) (p lo hi k : Nat) (wb : Nat → Nat) : Prop where
  kp : Kp w0 w
  pl : w0.heap.size ≤ p
  pr : p < w.heap.size
  c0 : w.cell? ⟨p, 0, none⟩ = some (.int .i64 (lo : Int))
  c1 : w.cell? ⟨p, 1, none⟩ = some (.int .i64 (hi : Int))
  c2 : w.cell? ⟨p, 2, none⟩ = some (.int .i64 0)
  cs : ∀ o, o < k → w.cell? ⟨p, 3 + o * 3, none⟩ = some (.slice (some ⟨wb o, 0, none⟩) (ln hi o) (ln hi o))
  cz : ∀ o, o < k → w.cell? ⟨p, 3 + o * 3 + 1, none⟩ = some (.int .i64 0)
  cl : ∀ o, o < k → w.cell? ⟨p, 3 + o * 3 + 2, none⟩ = some (.int .i64 0)
  ex : ∀ j, j < 33 → ∃ v, w.cell? ⟨p, j, none⟩ = some v
  fz : ∀ j, w.frozen? ⟨p, j, none⟩ = false
  zw : ∀ o, o < k → ZW w (wb o) (ln hi o)
  nb : ∀ o, o < k → wb o ≠ p ∧ w0.heap.size ≤ wb o
  inj : ∀ o o', o < k → o' < k → wb o = wb o' → o = o'
theorem ZW.lt {w : World} {b n : Nat} (h : ZW w b n) : b < w.heap.size := (Array.getElem?_eq_some_iff.1 h).1
theorem NB.next {w0 w w1 : World} {p lo hi k g : Nat} {wb : Nat → Nat} (h : NB w0 w p lo hi k wb) (kk : Kp w w1) (hg : w.heap.size ≤ g) (z : ZW w1 g (ln hi k)) (hk : k < 10) :
    NB w0 (((w1.setCell ⟨p, 3 + k * 3, none⟩ (.slice (some ⟨g, 0, none⟩) (ln hi k) (ln hi k))).setCell ⟨p, 3 + k * 3 + 1, none⟩ (.int .i64 0)).setCell ⟨p, 3 + k * 3 + 2, none⟩ (.int .i64 0)) p lo hi (k + 1) (fun o => if o = k then g else wb o) := by
  obtain ⟨w2, h2⟩ : ∃ w2, w2 = ((w1.setCell ⟨p, 3 + k * 3, none⟩ (.slice (some ⟨g, 0, none⟩) (ln hi k) (ln hi k))).setCell ⟨p, 3 + k * 3 + 1, none⟩ (.int .i64 0)).setCell ⟨p, 3 + k * 3 + 2, none⟩ (.int .i64 0) := ⟨_, rfl⟩
  rw [← h2]
  have k1 : ∀ j, w1.cell? ⟨p, j, none⟩ = w.cell? ⟨p, j, none⟩ := fun j => kk.cell (p := ⟨p, j, none⟩) h.pr
  have fr : Fr (· = p) w1 w2 := by rw [h2]; exact (((Fr.refl (· = p) w1).set ⟨p, 3 + k * 3, none⟩ _ (show p = p from rfl)).set ⟨p, 3 + k * 3 + 1, none⟩ _ (show p = p from rfl)).set ⟨p, 3 + k * 3 + 2, none⟩ _ (show p = p from rfl)
  have e0 : w2.cell? ⟨p, 3 + k * 3, none⟩ = some (.slice (some ⟨g, 0, none⟩) (ln hi k) (ln hi k)) := by
    obtain ⟨v, hv⟩ := h.ex (3 + k * 3) (by omega)
    rw [h2, World.cell?_setCell_other _ _ _ _ (ne_addr (.inr (by omega))), World.cell?_setCell_other _ _ _ _ (ne_addr (.inr (by omega)))]
    exact World.cell?_setCell_same _ _ _ ((k1 _).trans hv)
  have e1 : w2.cell? ⟨p, 3 + k * 3 + 1, none⟩ = some (.int .i64 0) := by
    obtain ⟨v, hv⟩ := h.ex (3 + k * 3 + 1) (by omega)
    rw [h2, World.cell?_setCell_other _ _ _ _ (ne_addr (.inr (by omega)))]
    exact World.cell?_setCell_same _ _ _ ((World.cell?_setCell_other _ _ _ _ (ne_addr (.inr (by omega)))).trans ((k1 _).trans hv))
  have e2 : w2.cell? ⟨p, 3 + k * 3 + 2, none⟩ = some (.int .i64 0) := by
    obtain ⟨v, hv⟩ := h.ex (3 + k * 3 + 2) (by omega)
    rw [h2]
    exact World.cell?_setCell_same _ _ _ ((World.cell?_setCell_other _ _ _ _ (ne_addr (.inr (by omega)))).trans ((World.cell?_setCell_other _ _ _ _ (ne_addr (.inr (by omega)))).trans ((k1 _).trans hv)))
  have eo : ∀ j, j ≠ 3 + k * 3 → j ≠ 3 + k * 3 + 1 → j ≠ 3 + k * 3 + 2 → w2.cell? ⟨p, j, none⟩ = w.cell? ⟨p, j, none⟩ := fun j j0 j1 j2 => by
    rw [h2, World.cell?_setCell_other _ _ _ _ (ne_addr (.inr (by omega))), World.cell?_setCell_other _ _ _ _ (ne_addr (.inr (by omega))), World.cell?_setCell_other _ _ _ _ (ne_addr (.inr (by omega)))]
    exact k1 j
  have gp : g ≠ p := by have := h.pr; omega
  have zo : ∀ b n, ZW w1 b n → b ≠ p → ZW w2 b n := fun b n hz hb => (fr.block b hz.lt hb).trans hz
  refine ⟨fr.kp (h.kp.trans kk) (fun i e => by rw [e]; exact h.pl), h.pl, Nat.lt_of_lt_of_le (Nat.lt_of_lt_of_le h.pr kk.size) fr.size, (eo _ (by omega) (by omega) (by omega)).trans h.c0, (eo _ (by omega) (by omega) (by omega)).trans h.c1, (eo _ (by omega) (by omega) (by omega)).trans h.c2, fun o ho => ?_, fun o ho => ?_, fun o ho => ?_, fun j hj => ?_, fun j => ?_, fun o ho => ?_, fun o ho => ?_, fun o o' ho ho' e => ?_⟩
  · by_cases c : o = k
    · subst c; rw [if_pos rfl]; exact e0
    · rw [if_neg c]; exact (eo _ (by omega) (by omega) (by omega)).trans (h.cs o (by omega))
  · by_cases c : o = k
    · subst c; exact e1
    · exact (eo _ (by omega) (by omega) (by omega)).trans (h.cz o (by omega))
  · by_cases c : o = k
    · subst c; exact e2
    · exact (eo _ (by omega) (by omega) (by omega)).trans (h.cl o (by omega))
  · by_cases j0 : j = 3 + k * 3
    · subst j0; exact ⟨_, e0⟩
    · by_cases j1 : j = 3 + k * 3 + 1
      · subst j1; exact ⟨_, e1⟩
      · by_cases j2 : j = 3 + k * 3 + 2
        · subst j2; exact ⟨_, e2⟩
        · obtain ⟨v, hv⟩ := h.ex j hj
          exact ⟨v, (eo j j0 j1 j2).trans hv⟩
  · rw [h2, World.frozen?_setCell, World.frozen?_setCell, World.frozen?_setCell]
    exact (kk.frz (p := ⟨p, j, none⟩) h.pr).trans (h.fz j)
  · show ZW w2 (if o = k then g else wb o) (ln hi o)
    by_cases c : o = k
    · subst c; rw [if_pos rfl]; exact zo _ _ z gp
    · rw [if_neg c]
      have hz := h.zw o (by omega)
      exact zo _ _ ((kk.block _ hz.lt).trans hz) (h.nb o (by omega)).1
  · show (if o = k then g else wb o) ≠ p ∧ w0.heap.size ≤ (if o = k then g else wb o)
    by_cases c : o = k
    · rw [if_pos c]; exact ⟨gp, Nat.le_trans h.kp.size hg⟩
    · rw [if_neg c]; exact h.nb o (by omega)
  · have hlt : ∀ o, o < k → wb o < w.heap.size := fun o ho => (h.zw o ho).lt
    have e' : (if o = k then g else wb o) = (if o' = k then g else wb o') := e
    by_cases c : o = k
    · by_cases c' : o' = k
      · omega
      · rw [if_pos c, if_neg c'] at e'; have := hlt o' (by omega); omega
    · by_cases c' : o' = k
      · rw [if_neg c, if_pos c'] at e'; have := hlt o (by omega); omega
      · rw [if_neg c, if_neg c'] at e'; exact h.inj o o' (by omega) (by omega) e'
theorem NB.drew {w0 w : World} {p lo hi k : Nat} {wb : Nat → Nat} (h : NB w0 w p lo hi k wb) : NB w0 w.drew p lo hi k wb :=
  ⟨h.kp.drew, h.pl, h.pr, h.c0, h.c1, h.c2, h.cs, h.cz, h.cl, h.ex, h.fz, h.zw, h.nb, h.inj⟩
/-- All sets are made: nothing is free. -/
theorem NB.done {w0 w : World} {p lo hi : Nat} {wb : Nat → Nat} (h : NB w0 w p lo hi 10 wb) (T : TAB w0) (hh : hi ≤ 1048576) (hl : lo ≤ hi) :
    ∃ U : Nat → Prop, BF w U p lo hi (fun _ => false) ∧ ∀ k, U k → w0.heap.size ≤ k := by
  have h0 := T.lt
  have al0 : ∀ o i, al (fun _ => false) o i = false := fun o => by
    induction o with
    | zero => intro i; rfl
    | succ o ih => intro i; unfold al; rw [ih]; rfl
  have rn0 : ∀ o i, rn (fun _ => false) o i = false := fun o i => by unfold rn; rw [al0]; rfl
  have cn0 : ∀ n, cnt (fun _ => false) n = 0 := fun n => (cnt_zero n).2 (fun _ _ => rfl)
  refine ⟨fun k => k = p ∨ ∃ o, o < 10 ∧ k = wb o, ⟨⟨wb, fun _ => 0, fun _ => 0, fun _ _ => 0, ⟨?_, .inl rfl, fun o ho => .inr ⟨o, ho, rfl⟩, ?_, T.kp h.kp, h.c0, h.c1, by rw [cn0]; exact h.c2, h.cs, h.cz, h.cl, h.fz, fun o ho q hq => ?_, fun o ho q => ?_, fun o ho => (h.nb o ho).1, h.inj, fun _ _ => by omega, hh⟩, ⟨fun o q b _ _ => by rw [rn0, Nat.zero_testBit], fun o i _ hi => (by rw [rn0] at hi; cases hi), fun o _ => ((cnt_zero _).2 (fun i _ => rn0 o i)).symm, fun o i _ hi => (by rw [rn0] at hi; cases hi)⟩⟩, fun k hk => (by cases hk), hl⟩, ?_⟩
  · rintro k (rfl | ⟨o, ho, rfl⟩)
    · exact h.pr
    · exact (h.zw o ho).lt
  · rintro (e | ⟨o, ho, e⟩)
    · have := h.pl; omega
    · have := (h.nb o ho).2; omega
  · rw [cell_of_row w (wb o) q _ _ _ (h.zw o ho), zeroW_get _ _ hq]; rfl
  · exact frozen_of_row w (wb o) q _ _ (h.zw o ho)
  · rintro k (rfl | ⟨o, ho, rfl⟩)
    · exact h.pl
    · exact (h.nb o ho).2
theorem NB.start (w : World) (lo hi : Nat) (cs : Array Value) (hc : cs.size = 33) (h0 : cs[0]? = some (.int .i64 (lo : Int))) (h1 : cs[1]? = some (.int .i64 (hi : Int))) (h2 : cs[2]? = some (.int .i64 0)) :
    NB w (w.alloc (.cells cs 147)) w.heap.size lo hi 0 (fun _ => 0) := by
  have hr := heap_alloc_new w (.cells cs 147)
  refine ⟨(Kp.refl w).alloc _, Nat.le_refl _, by simp, by rw [cell_of_row _ _ 0 _ _ _ hr]; exact h0, by rw [cell_of_row _ _ 1 _ _ _ hr]; exact h1, by rw [cell_of_row _ _ 2 _ _ _ hr]; exact h2, fun o ho => by omega, fun o ho => by omega, fun o ho => by omega, fun j hj => ?_, fun j => frozen_of_row _ _ j _ _ hr, fun o ho => by omega, fun o ho => by omega, fun o o' ho => by omega⟩
  rw [cell_of_row _ _ j _ _ _ hr, Array.getElem?_eq_getElem (by omega)]
  exact ⟨_, rfl⟩

/-- The frames from a to b - 1. -/
def ivl (a b : Nat) : Nat → Bool := fun k => decide (a ≤ k ∧ k < b)
theorem ivl_iff (a b k : Nat) : ivl a b k = true ↔ a ≤ k ∧ k < b := by simp [ivl]
theorem cut_lo {F : Nat → Bool} {lo hi : Nat} (dom : ∀ k, F k = true → lo ≤ k ∧ k < hi) : Cut F lo := by
  intro o i _ hA ⟨h1, h2⟩
  have := hA.range dom
  omega
theorem new_step {lo hi f o : Nat} (h1 : lo ≤ f) (h3 : Cut (ivl lo hi) f) (ho : o ≤ 9) (hf : f % 2 ^ o = 0) (hl : 2 ^ o ≤ hi - f) (hlt : f < hi) (hm : ∀ o', o' ≤ 9 → f % 2 ^ o' = 0 → 2 ^ o' ≤ hi - f → o' ≤ o) :
    (∀ k, k / 2 ^ o = f / 2 ^ o → ivl lo f k = false) ∧ (o = 9 ∨ ∃ k, k / 2 ^ (o + 1) = f / 2 ^ o / 2 ∧ k / 2 ^ o ≠ f / 2 ^ o ∧ ivl lo f k = false) ∧ addF (ivl lo f) o (f / 2 ^ o) = ivl lo (f + 2 ^ o) ∧ Cut (ivl lo hi) (f + 2 ^ o) ∧ f / 2 ^ o * 2 ^ o = f := by
  have hp := Nat.two_pow_pos o
  have hfo : f / 2 ^ o * 2 ^ o = f := Nat.div_mul_cancel (Nat.dvd_of_mod_eq_zero hf)
  have inB : ∀ k, k / 2 ^ o = f / 2 ^ o ↔ f ≤ k ∧ k < f + 2 ^ o := fun k => by rw [blk_iff, hfo]
  have noA : ∀ a, o < a → a ≤ 9 → f % 2 ^ a = 0 → ¬ Al (ivl lo hi) a (f / 2 ^ a) := fun a h4 h5 h6 hA => by
    have hr := hA.range (lo := lo) (hi := hi) (fun k hk => (ivl_iff ..).1 hk)
    rw [Nat.div_mul_cancel (Nat.dvd_of_mod_eq_zero h6)] at hr
    have := hm a h5 h6 (by omega)
    omega
  refine ⟨fun k hk => ?_, ?_, ?_, cut_next h3 hf noA, hfo⟩
  · have := (inB k).1 hk
    cases hv : ivl lo f k
    · rfl
    · have := (ivl_iff ..).1 hv; omega
  · by_cases e9 : o = 9
    · exact .inl e9
    · right
      refine Classical.byContradiction fun hno => ?_
      -- the whole block of the next order would be free
      have hA : Al (ivl lo hi) (o + 1) (f / 2 ^ (o + 1)) := fun k hk => by
        rw [div_par f o] at hk
        by_cases c : k / 2 ^ o = f / 2 ^ o
        · have := (inB k).1 c
          exact (ivl_iff ..).2 (by omega)
        · cases hv : ivl lo f k
          · exact absurd ⟨k, hk, c, hv⟩ hno
          · have := (ivl_iff ..).1 hv
            exact (ivl_iff ..).2 (by omega)
      by_cases c : f % 2 ^ (o + 1) = 0
      · exact noA (o + 1) (by omega) (by omega) c hA
      · have hb := (blk_iff f (o + 1) (f / 2 ^ (o + 1))).1 rfl
        refine h3 (o + 1) _ (by omega) hA ⟨?_, hb.2⟩
        have := Nat.div_add_mod f (2 ^ (o + 1))
        rw [Nat.mul_comm] at this
        generalize f / 2 ^ (o + 1) * 2 ^ (o + 1) = q at *
        omega
  · funext k
    apply Bool.eq_iff_iff.2
    rw [addF_iff, ivl_iff, ivl_iff, inB]
    omega
theorem ivl_dom (a b : Nat) : ∀ k, ivl a b k = true → a ≤ k ∧ k < b := fun _ hk => (ivl_iff ..).1 hk
/-- Between the rounds of New's second loop. -/
structure NI (w wr : World) (U : Nat → Prop) (p lo hi f : Nat) : Prop where
  bf : BF wr U p lo hi (ivl lo f)
  kp : Kp w wr
  cut : Cut (ivl lo hi) f
  new : ∀ k, U k → w.heap.size ≤ k
set_option maxHeartbeats 4000000 in
set_option maxRecDepth 100000 in
theorem new_walk (lo n hi : Nat) (w : World) (T : TAB w) (h1 : (lo : Int) ≤ 1048576) (h2 : (n : Int) ≤ 1048576 - lo) (hh : lo + n = hi) :
    Calls Tryz.prog 69 #[.int .i64 (lo : Int), .int .i64 (n : Int)] w fun e w' => e = .returned (.tuple #[.pointer (some ⟨w.heap.size, 0, none⟩), .int .i64 0]) ∧ ∃ U, NI w w' U w.heap.size lo hi hi := by
  have y1 : ¬ (lo : Int) < 0 := by omega
  have y2 : ¬ (1048576 : Int) < lo := by omega
  have y3 : ¬ (n : Int) < 0 := by omega
  have y4 : ¬ (1048576 - lo : Int) < n := by omega
  have y5 : (lo : Int) + n = hi := by omega
  have y6 : (hi : Int) ≤ 1048576 := by omega
  have y7 : lo ≤ hi := by omega
  have HT : Hid (TAB w) := T
  have N0 : Aside (∀ cs : Array Value, cs.size = 33 → cs[0]? = some (.int .i64 (lo : Int)) → cs[1]? = some (.int .i64 (hi : Int)) → cs[2]? = some (.int .i64 0) → NB w (w.alloc (.cells cs 147)) w.heap.size lo hi 0 (fun _ => 0)) := fun cs a b c d => NB.start w lo hi cs a b c d
  clear T hh
  go_enter Tryz.func69, Tryz.ntmps69
  go_wp2_with fail
  generalize hwp : w.heap.size = p at *
  go_loopg [32] 11 (fun g v32 wr => ∃ (k : Nat) (wb : Nat → Nat), v32 = .int .i64 (k : Int) ∧ k ≤ 10 ∧ 11 - k ≤ g ∧ Hid (NB w wr p lo hi k wb))
  case atStart => exact ⟨0, fun _ => 0, rfl, by omega, by omega, N0.out _ rfl rfl rfl rfl⟩
  case round =>
    obtain ⟨k, wb, rfl, hk, hg, HN⟩ := hrel
    by_cases e : k < 10
    · have z1 : (k : Int) < 10 := by omega
      have hsh := shr_nat hi k
      have hle := Nat.div_le_self hi (2 ^ k)
      have cN := newSet_any (hi / 2 ^ k) (ln hi k) wr.drew (by omega) (by unfold ln; omega) (by have := ln_le (show hi ≤ 1048576 by omega) k; omega)
      have c1 := HN.out.c1
      have KS : Aside (∀ w', Kp wr.drew w' → w'.cell? ⟨p, 1, none⟩ = some (.int .i64 (hi : Int))) := fun w' kk => (kk.cell (p := ⟨p, 1, none⟩) HN.out.drew.pr).trans HN.out.c1
      generalize hi / 2 ^ k = d at *
      obtain ⟨v0, hv0⟩ := HN.out.ex (3 + k * 3) (by omega)
      obtain ⟨v1, hv1⟩ := HN.out.ex (3 + k * 3 + 1) (by omega)
      obtain ⟨v2, hv2⟩ := HN.out.ex (3 + k * 3 + 2) (by omega)
      have K3 : Aside (∀ w', Kp wr.drew w' → w'.cell? ⟨p, 3 + k * 3, none⟩ = some v0 ∧ w'.cell? ⟨p, 3 + k * 3 + 1, none⟩ = some v1 ∧ w'.cell? ⟨p, 3 + k * 3 + 2, none⟩ = some v2 ∧ (∀ j, w'.frozen? ⟨p, j, none⟩ = false)) := fun w' kk => ⟨(kk.cell (p := ⟨p, 3 + k * 3, none⟩) HN.out.drew.pr).trans hv0, (kk.cell (p := ⟨p, 3 + k * 3 + 1, none⟩) HN.out.drew.pr).trans hv1, (kk.cell (p := ⟨p, 3 + k * 3 + 2, none⟩) HN.out.drew.pr).trans hv2, fun j => (kk.frz (p := ⟨p, j, none⟩) HN.out.drew.pr).trans (HN.out.fz j)⟩
      clear hv0 hv1 hv2
      go_wp2_with fail
      go_region_held3 (fun w' => w'.cell? ⟨p, 1, none⟩ = some (.int .i64 (hi : Int))) (first | go_keep | exact KS.out _ K1 | (rw [World.cell?_setCell_other _ _ _ _ (ne_addr (.inr (by omega))), World.cell?_setCell_other _ _ _ _ (ne_addr (.inr (by omega))), World.cell?_setCell_other _ _ _ _ (ne_addr (.inr (by omega)))]; exact KS.out _ K1)) (first | (go_at_call 101; go_must (with_reducible refine cN.mono ?_); rintro e w1 ⟨⟨gb, rfl, Z1, G1⟩, K1⟩; obtain ⟨d0, d1, d2, df⟩ := K3.out w1 K1; have df0 := df (3 + k * 3); have df1 := df (3 + k * 3 + 1); have df2 := df (3 + k * 3 + 2); clear df))
      have HN2 : Hid (NB w (((w1.setCell ⟨p, 3 + k * 3, none⟩ (.slice (some ⟨gb, 0, none⟩) (ln hi k) (ln hi k))).setCell ⟨p, 3 + k * 3 + 1, none⟩ (.int .i64 0)).setCell ⟨p, 3 + k * 3 + 2, none⟩ (.int .i64 0)) p lo hi (k + 1) (fun o => if o = k then gb else wb o)) := HN.out.drew.next K1 G1 Z1 e
      clear HN K1 G1 Z1 d0 d1 d2 df0 df1 df2 c1 cN K3 KS
      go_wp2
      go_roundg (11 - (k + 1))
      case measure => omega
      case rel => exact ⟨k + 1, _, by go_num, by omega, by omega, HN2⟩
    · have ek : k = 10 := by omega
      subst ek
      obtain ⟨U, B0, N0'⟩ := HN.out.done HT.out (by omega) y7
      rw [show ((10 : Nat) : Int) = 10 from rfl]
      have I0 : Hid (NI w wr U p lo hi lo) := ⟨by
        have e : ivl lo lo = fun _ => false := funext fun k => by simp [ivl]
        rw [e]; exact B0, HN.out.kp, cut_lo (ivl_dom lo hi), N0'⟩
      clear HN B0 N0'
      go_wp2_with fail
      go_loopg [8] (hi + 1) (fun g v8 wr => ∃ f : Nat, v8 = .int .i64 (f : Int) ∧ lo ≤ f ∧ f ≤ hi ∧ hi + 1 - f ≤ g ∧ Hid (NI w wr U p lo hi f))
      case atStart => exact ⟨lo, rfl, by omega, by omega, by omega, I0⟩
      case round =>
        clear I0
        obtain ⟨f, rfl, f1, f2, hg, HI⟩ := hrel
        have c1 := HI.out.bf.c.2.1
        have z0 : (f : Int) ≤ hi := by omega
        by_cases e : f < hi
        · have z1 : (f : Int) < hi := by omega
          obtain ⟨o, cG, o1, o2, o3, o4⟩ := greatest_any HI.out.bf.tab f (hi - f) (by omega) (by omega) (by omega)
          rw [show ((hi - f : Nat) : Int) = (hi : Int) - f by omega] at cG
          obtain ⟨q1, q2, q3, q4, q5⟩ := new_step f1 HI.out.cut o1 o2 o3 e o4
          have hp := Nat.two_pow_pos o
          have cA := badd_bf HI.out.bf o (f / 2 ^ o) f o1 q1 q2 rfl (by rw [q5]; exact f1) (by rw [q5]; omega)
          rw [q3] at cA
          obtain ⟨e1, e2⟩ := pow_wrap (show o < 10 by omega)
          have HN : Aside (∀ w', BF w' U p lo hi (ivl lo (f + 2 ^ o)) → Fr U wr w' → NI w w' U p lo hi (f + 2 ^ o)) := fun w' b k => ⟨b, k.kp HI.out.kp HI.out.new, q4, HI.out.new⟩
          have z2 : (o : Int) < 10 := by omega
          clear q1 q2 q3 q4 q5 o1 o2 o4
          have O3 : Hid (2 ^ o ≤ hi - f ∧ 0 < 2 ^ o) := ⟨o3, hp⟩
          clear o3 hp
          generalize 2 ^ o = s at *
          go_wp2_with (first | (go_at_call 102; go_must (with_reducible refine cG.mono ?_); rintro e w' ⟨rfl, rfl⟩) | (go_at_call 103; go_must (with_reducible refine cA.mono ?_); rintro e w2 ⟨rfl, B2, F2⟩))
          have HN2 : Hid (NI w w2 U p lo hi (f + s)) := HN.out w2 B2 F2
          clear B2 F2 HN HI
          go_roundg (hi + 1 - (f + s))
          case measure => have := O3.out; omega
          case rel => exact ⟨f + s, by go_num, by omega, by have := O3.out; omega, by omega, HN2⟩
        · have ef : f = hi := by omega
          subst ef
          have HW : Hid (w.heap.size = p) := hwp
          clear hwp
          go_wp2
          go_ret2
          exact ⟨by rw [HW.out]; rfl, U, by rw [HW.out]; exact HI.out⟩
theorem bnew_ok (lo n : Nat) (w : World) (T : TAB w) (h1 : lo ≤ 1048576) (h2 : n ≤ 1048576 - lo) :
    Calls Tryz.prog 69 #[.int .i64 (lo : Int), .int .i64 (n : Int)] w fun e w' => (∃ p U, e = .returned (.tuple #[.pointer (some ⟨p, 0, none⟩), .int .i64 0]) ∧ BF w' U p lo (lo + n) (ivl lo (lo + n)) ∧ ∀ k, U k → w.heap.size ≤ k) ∧ Kp w w' :=
  (new_walk lo n (lo + n) w T (by omega) (by omega) rfl).mono fun e w' ⟨e1, U, e2⟩ => ⟨⟨_, U, e1, e2.bf, e2.new⟩, e2.kp⟩
set_option maxHeartbeats 1000000 in
theorem bnew_no (lo n : Int) (w : World) (h : ¬ (0 ≤ lo ∧ lo ≤ 1048576 ∧ 0 ≤ n ∧ n ≤ 1048576 - lo)) :
    Calls Tryz.prog 69 #[.int .i64 lo, .int .i64 n] w fun e w' => e = .returned (.tuple #[.pointer none, .int .i64 1]) ∧ w' = w := by
  by_cases d1 : lo < 0
  · clear h
    go_enter Tryz.func69, Tryz.ntmps69
    go_wp2
    go_ret2
    exact ⟨rfl, rfl⟩
  · by_cases d2 : (1048576 : Int) < lo
    · clear h
      go_enter Tryz.func69, Tryz.ntmps69
      go_wp2
      go_ret2
      exact ⟨rfl, rfl⟩
    · by_cases d3 : n < 0
      · clear h
        go_enter Tryz.func69, Tryz.ntmps69
        go_wp2
        go_ret2
        exact ⟨rfl, rfl⟩
      · have d4 : (1048576 - lo : Int) < n := by omega
        clear h
        go_enter Tryz.func69, Tryz.ntmps69
        go_wp2
        go_ret2
        exact ⟨rfl, rfl⟩
end Go.Proofs.YtanlcmdnhhdhaaaGreatDoor
