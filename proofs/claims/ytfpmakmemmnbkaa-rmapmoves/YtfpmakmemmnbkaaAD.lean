/- The document's rmap: uses in a list; at, Has. -/
import Derived.Test.YtfpmakmemmnbkaaAL
import Derived.Test.YtfpmakmemmnbkaaA1
namespace Go.Proofs.Ytfpmakmemmnbkaa
open Go.RowKit
set_option maxRecDepth 10000

/-! ### places: like ones -/
def samPl (x y : PLc) : Bool := (x.1 == y.1) && (x.2 == y.2)
theorem samPl_eq {x y : PLc} : samPl x y = true ↔ x = y := by
  obtain ⟨a, b⟩ := x; obtain ⟨c, d⟩ := y
  simp [samPl]
theorem samPl_refl (x : PLc) : samPl x x = true := samPl_eq.2 rfl
theorem samPl_not {x y : PLc} (h : x ≠ y) : samPl x y = false := by
  cases e : samPl x y
  · rfl
  · exact absurd (samPl_eq.1 e) h
theorem eq_place (s q s' q' : Int) (w : World) : (Op.equalIn 10000 31 (.agg #[.int .i64 s, .int .u64 q]) (.agg #[.int .i64 s', .int .u64 q'])).run Try.prog w = .ok ((s == s') && (q == q')) w := by
  rw [run_equalIn_struct w 9999 _ _ _ (by kernel_rfl) (by kernel_rfl)]
  have pe : ∀ x y : Int, (Op.equalIn 9999 3 (.int .i64 x) (.int .i64 y)).run Try.prog w = .ok (x == y) w := fun x y => run_equalIn_int w 9998 3 .i64 .i64 x y Try.underlying3
  have pu : ∀ x y : Int, (Op.equalIn 9999 29 (.int .u64 x) (.int .u64 y)).run Try.prog w = .ok (x == y) w := fun x y => run_equalIn_int w 9998 29 .u64 .u64 x y Try.underlying29
  have p0 : ∀ x y : Int, (part 3 #[.int .i64 x, .int .u64 y] 0).run Try.prog w = .ok (.int .i64 x) w := fun x y => by simp [part, isAgg, run_underlying Try.underlying3]
  have p1 : ∀ x y : Int, (part 29 #[.int .i64 x, .int .u64 y] 1).run Try.prog w = .ok (.int .u64 y) w := fun x y => by simp [part, isAgg, run_underlying Try.underlying29]
  simp only [Program.fieldsOf, Try.underlying31, Op.eqFields]
  cases e1 : (s == s') <;> cases e2 : (q == q') <;> simp [p0, p1, pe, pu, e1, e2]

/-! ### lists of uses, of places, of frames -/
abbrev UC : Type := Int × PLc
def LTu : LT UC := ⟨fun u => [.int .i64 u.1, .int .i64 u.2.1, .int .u64 u.2.2], 3, 56, 26⟩
def LTp : LT PLc := ⟨fun x => [.int .i64 x.1, .int .u64 x.2], 2, 31, 37⟩
def LTi : LT Int := ⟨fun x => [.int .i64 x], 1, 3, 39⟩
theorem info_use : ∃ i z, Try.prog.info? 56 = some i ∧ i.zero = some z ∧ i.size = 3 ∧ i.bytes ≤ 10000 ∧ z.cells.size = 3 := ⟨_, _, rfl, rfl, rfl, by decide, rfl⟩
theorem info_plc : ∃ i z, Try.prog.info? 31 = some i ∧ i.zero = some z ∧ i.size = 2 ∧ i.bytes ≤ 10000 ∧ z.cells.size = 2 := ⟨_, _, rfl, rfl, rfl, by decide, rfl⟩
theorem info_num : ∃ i z, Try.prog.info? 3 = some i ∧ i.zero = some z ∧ i.size = 1 ∧ i.bytes ≤ 10000 ∧ z.cells.size = 1 := ⟨_, _, rfl, rfl, rfl, by decide, rfl⟩
theorem encL_use : Enc LTu.enc 3 := ⟨fun _ => rfl, fun x u hu => by
  simp only [LTu, List.mem_cons, List.not_mem_nil, or_false] at hu
  rcases hu with rfl | rfl | rfl <;> rfl, by decide⟩
theorem encL_place : Enc LTp.enc 2 := ⟨fun _ => rfl, fun x u hu => by
  simp only [LTp, List.mem_cons, List.not_mem_nil, or_false] at hu
  rcases hu with rfl | rfl <;> rfl, by decide⟩
theorem encL_num : Enc LTi.enc 1 := ⟨fun _ => rfl, fun x u hu => by
  simp only [LTi, List.mem_cons, List.not_mem_nil, or_false] at hu
  rcases hu with rfl; rfl, by decide⟩
theorem okT_use : LTok LTu := ⟨encL_use, Try.underlying26, info_use, fun w => by kernel_rfl⟩
theorem okT_place : LTok LTp := ⟨encL_place, Try.underlying37, info_plc, fun w => by kernel_rfl⟩
theorem okT_num : LTok LTi := ⟨encL_num, Try.underlying39, info_num, fun w => by kernel_rfl⟩

/-- The document's map at q: its list v, in blocks at or above b. -/
structure RDU (w : World) (q b : Nat) (v : Value) (T : List UC) : Prop where
  c : w.heap[q]? = some (.cells #[v] 28 (0, 0))
  ax : AX LTu w b v T
  ne : ∀ g, v.ownBlock = some g → g ≠ q
section
variable {w w' : World} {q b : Nat} {v : Value} {T : List UC}
theorem RDU.lt (h : RDU w q b v T) : q < w.heap.size := (Array.getElem?_eq_some_iff.1 h.c).1
theorem RDU.fr (h : RDU w q b v T) {S : Nat → Prop} (k : Fr S w w') (h1 : ¬ S q) (h2 : ∀ g, v.ownBlock = some g → ¬ S g) : RDU w' q b v T := ⟨(k.block q h.lt h1).trans h.c, h.ax.fr k (fun g _ _ e s => h2 g e s), h.ne⟩
theorem RDU.kp (h : RDU w q b v T) (k : Kp w w') : RDU w' q b v T := h.fr (k.fr (fun _ => False)) id (fun _ _ => id)
theorem RDU.c0 (h : RDU w q b v T) : w.cell? ⟨q, 0, none⟩ = some v := by rw [cell_of_row w q 0 _ _ _ h.c]; rfl
theorem RDU.fz (h : RDU w q b v T) (j : Nat) : w.frozen? ⟨q, j, none⟩ = false := frozen_of_row w q j _ _ h.c
/-- Where a use is; -1: nowhere. -/
def atU (T : List UC) (u : UC) : Int := if u ∈ T then ((T.idxOf u : Nat) : Int) else -1
theorem idx_at : ∀ {T : List UC} {i : Nat} {u : UC}, T[i]? = some u → (∀ j, j < i → T[j]? ≠ some u) → T.idxOf u = i
  | [], i, u, h, _ => by simp at h
  | t :: r, 0, u, h, _ => by simp at h; subst h; simp
  | t :: r, i + 1, u, h, hn => by
    have h0 : t ≠ u := fun e => hn 0 (by omega) (by rw [e]; rfl)
    have ih := idx_at (T := r) (i := i) (u := u) (by simpa using h) (fun j hj => by have := hn (j + 1) (by omega); simpa using this)
    rw [List.idxOf_cons, show (t == u) = false from by simpa using h0, ih]; rfl
theorem atU_at {i : Nat} {u : UC} (h : T[i]? = some u) (hn : ∀ j, j < i → T[j]? ≠ some u) : atU T u = (i : Int) := by
  unfold atU
  rw [if_pos (List.mem_of_getElem? h), idx_at h hn]
theorem atU_no {u : UC} (h : ∀ j, j < T.length → T[j]? ≠ some u) : atU T u = -1 := by
  unfold atU
  refine if_neg (fun c => ?_)
  obtain ⟨j, hj, e⟩ := List.mem_iff_getElem.1 c
  exact h j hj (by rw [List.getElem?_eq_getElem hj, e])
theorem meas_next {i n gk : Nat} (e : i < n) (hg : n + 1 - i ≤ gk) : n + 1 - (i + 1) < gk := by omega
set_option maxHeartbeats 8000000 in
theorem uat_any (h : RDU w q b v T) (hl : T.length ≤ 1000000) (f : Int) (x : PLc) :
    Calls Try.prog 20 #[.pointer (some ⟨q, 0, none⟩), .int .i64 f, plV x] w fun e w' => e = .returned (.int .i64 (atU T (f, x))) ∧ Kp w w' := by
  obtain ⟨na, cap, rfl, _, _, _⟩ := h.ax.form okT_use
  have c0 := h.c0
  have HH : Hid (RDU w q b (.slice na T.length cap) T) := h
  have hql := h.lt
  obtain ⟨n, hn⟩ : ∃ n, n = T.length := ⟨_, rfl⟩
  rw [← hn] at c0
  have HN : Hid (n = T.length) := hn
  have z0 : (n : Int) ≤ 1000000 := by omega
  obtain ⟨r, hr⟩ : ∃ r, r = atU T (f, x) := ⟨_, rfl⟩
  rw [← hr]
  have HR : Hid (r = atU T (f, x)) := hr
  obtain ⟨xg, xp⟩ := x
  unfold plV
  clear h hl hr hn
  go_enter Try.func20, Try.ntmps20
  go_wp2_with fail
  obtain ⟨w0, hw0⟩ : ∃ w0, w0 = w.alloc (.cells #[.int .i64 xg, .int .u64 xp] 31) := ⟨_, rfl⟩
  obtain ⟨bx, hbx⟩ : ∃ bx, bx = w.heap.size := ⟨_, rfl⟩
  rw [← hw0, ← hbx]
  have k0 : Kp w w0 := by rw [hw0]; exact (Kp.refl w).alloc _
  have hbr : w0.heap[bx]? = some (.cells #[.int .i64 xg, .int .u64 xp] 31) := by rw [hw0, hbx]; exact heap_alloc_new w _
  have b0 : w0.cell? ⟨bx, 0, none⟩ = some (.int .i64 xg) := by rw [cell_of_row _ _ 0 _ _ _ hbr]; rfl
  have b1 : w0.cell? ⟨bx, 1, none⟩ = some (.int .u64 xp) := by rw [cell_of_row _ _ 1 _ _ _ hbr]; rfl
  have c1 : w0.cell? ⟨q, 0, none⟩ = some (.slice na n cap) := (k0.cell (p := ⟨q, 0, none⟩) hql).trans c0
  have HK : Hid (Kp w w0) := k0
  have hbl : bx < w0.heap.size := by rw [hw0, hbx]; simp
  clear hw0 hbx hbr c0 k0
  go_loopg [7] (n + 1) (fun gg v7 wr => ∃ i : Nat, v7 = .int .i64 (i : Int) ∧ i ≤ n ∧ n + 1 - i ≤ gg ∧ Hid (Kp w0 wr ∧ ∀ j, j < i → T[j]? ≠ some (f, (xg, xp))))
  case atStart => exact ⟨0, rfl, by omega, by omega, (show _ ∧ _ from ⟨Kp.refl _, fun j hj => by omega⟩)⟩
  case round =>
    obtain ⟨i, rfl, hi, hg, HI⟩ := hrel
    have d1 : wr.cell? ⟨q, 0, none⟩ = some (.slice na n cap) := by
      rw [HI.out.1.cell (p := ⟨q, 0, none⟩) (Nat.lt_of_lt_of_le hql HK.out.size)]; exact c1
    by_cases e : i < n
    · obtain ⟨y, hy⟩ : ∃ y, T[i]? = some y := ⟨_, List.getElem?_eq_getElem (by have := HN.out; omega)⟩
      obtain ⟨na', cap', ev, _, _, hc⟩ := HH.out.ax.form okT_use
      cases ev
      obtain ⟨g, rfl, hg2, _, hc⟩ := hc i y hy
      have e0 := hc 0 _ rfl
      have e1 := hc 1 _ rfl
      have e2 := hc 2 _ rfl
      have kk := HK.out.trans HI.out.1
      rw [← kk.cell (p := ⟨g, _, none⟩) hg2] at e0 e1 e2
      simp only [show LTu.sz = 3 from rfl, Nat.add_zero] at e0 e1 e2
      obtain ⟨yf, yg, yp⟩ := y
      have f0 := (HI.out.1.cell (p := ⟨bx, 0, none⟩) hbl).trans b0
      have f1 := (HI.out.1.cell (p := ⟨bx, 1, none⟩) hbl).trans b1
      have y1 : (i : Int) < n := by omega
      have qe := eq_place yg yp xg xp
      have hit : yf = f → yg = xg → yp = xp → r = (i : Int) := fun a b c => by
        subst a; subst b; subst c
        rw [HR.out]; exact atU_at hy HI.out.2
      have nxt : ¬ (yf = f ∧ yg = xg ∧ yp = xp) → ∀ j, j < i + 1 → T[j]? ≠ some (f, (xg, xp)) := fun c j hj => by
        by_cases ej : j = i
        · subst ej
          rw [hy]
          intro e
          simp only [Option.some.injEq, Prod.mk.injEq] at e
          exact c e
        · exact HI.out.2 j (by omega)
      by_cases c1 : yf = f
      · subst c1
        by_cases c2 : yg = xg ∧ yp = xp
        · obtain ⟨rfl, rfl⟩ := c2
          have HE : Hid (r = (i : Int) ∧ ∀ m, Kp w (wr.drewN m)) := ⟨hit rfl rfl rfl, fun m => kk.drewN m⟩
          have qt : ∀ w, (Op.equalIn 10000 31 (.agg #[.int .i64 yg, .int .u64 yp]) (.agg #[.int .i64 yg, .int .u64 yp])).run Try.prog w = .ok true w := fun w => by rw [eq_place]; simp
          clear hc hit nxt hy HI HH kk qe
          go_wp2_with fail
          go_quiet (fail)
          go_wp2_with fail
          go_ret
          exact ⟨by rw [HE.out.1]; rfl, HE.out.2 _⟩
        · have HE : Hid ((∀ j, j < i + 1 → T[j]? ≠ some (yf, (xg, xp))) ∧ Kp w0 wr) := ⟨nxt (fun c => c2 c.2), HI.out.1⟩
          have qt : ∀ w, (Op.equalIn 10000 31 (.agg #[.int .i64 yg, .int .u64 yp]) (.agg #[.int .i64 xg, .int .u64 xp])).run Try.prog w = .ok false w := fun w => by
            rw [eq_place]
            have : ((yg == xg) && (yp == xp)) = false := by
              cases c : ((yg == xg) && (yp == xp))
              · rfl
              · exact absurd (by simpa using c) c2
            rw [this]
          clear hc hit nxt hy HI kk qe c2
          go_wp2_with fail
          go_quiet (fail)
          go_wp2_with fail
          go_roundg (n + 1 - (i + 1))
          case measure => exact meas_next e hg
          case rel => exact ⟨i + 1, by go_num, by omega, by omega, HE.out.2.trans ((Kp.refl _).drewN _), HE.out.1⟩
      · have HE : Hid ((∀ j, j < i + 1 → T[j]? ≠ some (f, (xg, xp))) ∧ Kp w0 wr) := ⟨nxt (fun c => c1 c.1), HI.out.1⟩
        have y2 : (yf == f) = false := by simpa using c1
        clear hc hit nxt hy HI kk qe
        go_wp2_with fail
        go_quiet (fail)
        go_wp2_with fail
        go_roundg (n + 1 - (i + 1))
        case measure => exact meas_next e hg
        case rel => exact ⟨i + 1, by go_num, by omega, by omega, HE.out.2.trans ((Kp.refl _).drewN _), HE.out.1⟩
    · have y1 : ¬ (i : Int) < n := by omega
      have HE : Hid (r = -1 ∧ Kp w wr) := ⟨by rw [HR.out]; exact atU_no (fun j hj => HI.out.2 j (by have := HN.out; omega)), HK.out.trans HI.out.1⟩
      clear HI
      go_wp2_with fail
      go_ret
      exact ⟨by rw [HE.out.1]; rfl, HE.out.2⟩
set_option maxHeartbeats 4000000 in
theorem uhas_any (h : RDU w q b v T) (hl : T.length ≤ 1000000) (f : Int) (x : PLc) :
    Calls Try.prog 14 #[.pointer (some ⟨q, 0, none⟩), .int .i64 f, plV x] w fun e w' => e = .returned (.bool (decide ((f, x) ∈ T))) ∧ Kp w w' := by
  have ka : ∀ v', Kp w v' → Calls Try.prog 20 #[.pointer (some ⟨q, 0, none⟩), .int .i64 f, plV x] v' fun e w' => e = .returned (.int .i64 (atU T (f, x))) ∧ Kp v' w' := fun v' k => uat_any (h.kp k) hl f x
  have e1 : decide (0 ≤ atU T (f, x)) = decide ((f, x) ∈ T) := by
    unfold atU
    by_cases c : (f, x) ∈ T
    · rw [if_pos c, decide_eq_true c, decide_eq_true (by omega)]
    · rw [if_neg c, decide_eq_false c, decide_eq_false (by omega)]
  rw [← e1]
  obtain ⟨xg, xp⟩ := x
  unfold plV at *
  generalize atU T (f, (xg, xp)) = r at *
  clear e1 h hl
  go_enter Try.func14, Try.ntmps14
  go_wp2_with fail
  with_reducible refine (ka _ ((Kp.refl w).alloc _)).mono ?_
  rintro e w1 ⟨rfl, k1⟩
  have HK : Hid (Kp w w1) := ((Kp.refl w).alloc _).trans k1
  clear k1 ka
  go_wp2_with fail
  go_ret
  exact ⟨rfl, HK.out⟩
end

end Go.Proofs.Ytfpmakmemmnbkaa
