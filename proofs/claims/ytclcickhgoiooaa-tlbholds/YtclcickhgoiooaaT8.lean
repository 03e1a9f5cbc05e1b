/- tlb: lists of lines; List. -/
import Derived.Test.YtclcickhgoiooaaT2
namespace Go.Proofs.Ytclcickhgoiooaa
open Go.RowKit
set_option maxRecDepth 10000

theorem info_line : ∃ i, Try.prog.info? 54 = some i ∧ i.zero = some (lnV zL) ∧ i.size = 11 ∧ i.bytes = 48 := by
  have h : (Try.prog.info? 54).map (fun i => (i.zero, i.size, i.bytes)) = some (some (lnV zL), 11, 48) := by kernel_rfl
  obtain ⟨i, hi, e⟩ := Option.map_eq_some_iff.1 h
  simp only [Prod.mk.injEq] at e
  exact ⟨i, hi, e.1, e.2.1, e.2.2⟩
/-- v is a list of lines in a block at or above b. -/
structure LL (w : World) (b : Nat) (v : Value) (L : List LN) : Prop where
  ol : OL encL 54 11 w v L
  up : ∀ g, v.ownBlock = some g → b ≤ g ∧ g < w.heap.size
section
variable {w w' : World} {b : Nat} {v : Value} {L : List LN}
theorem LL.nil (w : World) (b : Nat) : LL w b (.slice none 0 0) [] := ⟨OL.nil _ w, fun g h => by cases h⟩
theorem LL.fr (h : LL w b v L) {S : Nat → Prop} (k : Fr S w w') (hS : ∀ g, b ≤ g → g < w.heap.size → S g → False) : LL w' b v L :=
  ⟨h.ol.fr k (fun g hg s => by have := h.up g hg; exact hS g this.1 this.2 s), fun g hg => ⟨(h.up g hg).1, Nat.lt_of_lt_of_le (h.up g hg).2 k.size⟩⟩
theorem LL.kp (h : LL w b v L) (k : Kp w w') : LL w' b v L := h.fr (k.fr (fun _ => False)) (fun _ _ _ => id)
theorem LL.low (h : LL w b v L) {c : Nat} (hc : c ≤ b) : LL w c v L := ⟨h.ol, fun g hg => ⟨Nat.le_trans hc (h.up g hg).1, (h.up g hg).2⟩⟩
theorem LL.form (h : LL w b v L) : ∃ na cap, v = .slice na L.length cap ∧ ∀ i x, L[i]? = some x → ∃ g, na = some ⟨g, 0, none⟩ ∧ g < w.heap.size ∧ b ≤ g ∧ ∀ j y, (encL x)[j]? = some y → w.cell? ⟨g, i * 11 + j, none⟩ = some y := by
  obtain ⟨na, cap, e, l, hc⟩ := h.ol.form
  refine ⟨na, cap, e, fun i x hx => ?_⟩
  rcases hc with ⟨_, _, rfl⟩ | ⟨g, rfl, hg⟩
  · simp at hx
  · have h1 := h.ol
    rw [e] at h1
    exact ⟨g, rfl, hg, (h.up g (by rw [e]; rfl)).1, fun j y hy => OL.cell encL_ok h1 hx hy⟩
/-- append(v, l). -/
theorem LL.snoc (h : LL w b v L) (hb : b ≤ w.heap.size) (l : LN) (hl : L.length ≤ 2000000) :
    ∃ v' w', (Builtin.append_ #[52, 52] 52 #[v, .slice (some ⟨w.heap.size, 0, none⟩) 1 1]).run Try.prog (w.alloc (.cells #[.int .i64 l.i, .int .i64 l.a, .int .u64 (l.v : Int), .int .u64 (l.p : Int), .int .i64 l.f, .bool l.r, .bool l.q, .bool l.x, .bool l.r2, .bool l.q2, .bool l.x2] 54)) = .ok v' w' ∧ LL w' b v' (L ++ [l]) ∧ (∀ W : World, W.heap.size ≤ b → Kp W w → Kp W w') ∧ Fr (fun g => v.ownBlock = some g) w w' := by
  obtain ⟨i0, hi, hz0, hz1, hz2⟩ := info_line
  obtain ⟨w1, h1⟩ : ∃ w1, w1 = w.alloc (.cells (encL l).toArray 54) := ⟨_, rfl⟩
  have k1 : Kp w w1 := by rw [h1]; exact (Kp.refl w).alloc _
  have hr : w1.heap[w.heap.size]? = some (.cells (encL l).toArray 54 (0, 0)) := by rw [h1]; exact heap_alloc_new w _
  have es : w1.heap.size = w.heap.size + 1 := by rw [h1]; simp
  obtain ⟨v', w', r1, r2, r3, r4⟩ := OL.append encL_ok (P := Try.prog) (t := 52) Try.underlying52 hi hz0 hz1 hz2 rfl (h.kp k1).ol [l] (some ⟨w.heap.size, 0, none⟩) 1 1 rfl (.inr ⟨w.heap.size, 0, rfl, fun j u hu => by
    rw [Nat.zero_add, cell_of_row w1 w.heap.size j _ _ _ hr]
    rw [List.flatMap_singleton] at hu
    rw [← List.getElem?_toArray] at hu
    exact hu⟩) (by simp; omega) (by omega) 52
  have fr1 : Fr (fun g => v.ownBlock = some g) w w' := (k1.fr _).trans (Fr.grown r3 (fun g hg => hg))
  refine ⟨v', w', by rw [show w.alloc (.cells #[.int .i64 l.i, .int .i64 l.a, .int .u64 (l.v : Int), .int .u64 (l.p : Int), .int .i64 l.f, .bool l.r, .bool l.q, .bool l.x, .bool l.r2, .bool l.q2, .bool l.x2] 54) = w1 from h1.symm]; exact r1, ⟨r2, fun g hg => ?_⟩, fun W hW kW => fr1.kp kW (fun g hg => Nat.le_trans hW (h.up g hg).1), fr1⟩
  have hlt : g < w'.heap.size := by
    obtain ⟨na, cap, e, _, hc⟩ := r2.form
    rcases hc with ⟨rfl, rfl, _⟩ | ⟨g', rfl, hg'⟩
    · rw [e] at hg; cases hg
    · rw [e] at hg; cases hg; exact hg'
  refine ⟨?_, hlt⟩
  rcases r4 with e | e
  · exact (h.up g (by rw [← e]; exact hg)).1
  · rw [hg] at e; cases e; omega
end

/-- The lines of the first n places. -/
def lsT (T : Nat → PC) (n : Nat) : List LN := ((List.range n).filter (fun i => (T i).on)).map (fun i => (T i).l)
theorem lsT_on {T : Nat → PC} {n : Nat} (h : (T n).on = true) : lsT T (n + 1) = lsT T n ++ [(T n).l] := by
  simp [lsT, List.range_succ, h]
theorem lsT_off {T : Nat → PC} {n : Nat} (h : (T n).on = false) : lsT T (n + 1) = lsT T n := by
  simp [lsT, List.range_succ, h]
theorem lsT_len (T : Nat → PC) (n : Nat) : (lsT T n).length ≤ n := by
  unfold lsT
  rw [List.length_map]
  exact Nat.le_trans (List.length_filter_le _ _) (by simp)

section
variable {w : World} {b g s k : Nat} {T : Nat → PC}
set_option maxHeartbeats 4000000 in
theorem list_any (h : TP w b g s k T) :
    Calls Try.prog 18 #[.pointer (some ⟨b, 0, none⟩)] w fun e w' => (∃ v, e = .returned v ∧ LL w' w.heap.size v (lsT T (s * k))) ∧ Kp w w' := by
  have c0 := h.c0
  have c1 := h.c1
  have n1 := h.n1
  have HR : Hid (PR w g (s * k) T) := h.row
  clear h
  generalize s * k = N at *
  have y2 : (N : Int) ≤ 512 := by omega
  go_enter Try.func18, Try.ntmps18
  go_wp2_with fail
  clear c0 c1
  go_loopg [3, 11] N (fun gk v3 v11 wr => ∃ n : Nat, v11 = .int .i64 (n : Int) ∧ n ≤ N ∧ N - n ≤ gk ∧ Hid (LL wr w.heap.size v3 (lsT T n)) ∧ Hid (Kp w wr))
  case atStart => exact ⟨0, rfl, by omega, by omega, LL.nil _ _, Kp.refl w⟩
  case round =>
    obtain ⟨n, rfl, n2, hg, HL, HK⟩ := hrel
    by_cases hn : n < N
    · have y1 : (n : Int) < N := by omega
      have P := HR.out.kp HK.out
      have cc : ∀ m y, (encP (T n))[m]? = some y → wr.cell? ⟨g, n * 12 + m, none⟩ = some y := fun m y hy => P.cell n m y hn hy
      have e1 := @lsT_on T n
      have e2 := @lsT_off T n
      have l1 := lsT_len T n
      generalize T n = C at *
      obtain ⟨on, l⟩ := C
      have o0 := cc 0 _ rfl
      have o1 := cc 1 _ rfl
      have o2 := cc 2 _ rfl
      have o3 := cc 3 _ rfl
      have o4 := cc 4 _ rfl
      have o5 := cc 5 _ rfl
      have o6 := cc 6 _ rfl
      have o7 := cc 7 _ rfl
      have o8 := cc 8 _ rfl
      have o9 := cc 9 _ rfl
      have o10 := cc 10 _ rfl
      have o11 := cc 11 _ rfl
      simp only [Nat.add_zero] at o0
      clear cc P
      cases on
      · have HL2 : Hid (LL wr w.heap.size u3 (lsT T (n + 1))) := by
          show LL wr w.heap.size u3 (lsT T (n + 1))
          rw [e2 rfl]; exact HL.out
        clear e1 e2 HL
        go_wp2
        have HL3 : Hid (∀ o, LL (wr.alloc o) w.heap.size u3 (lsT T (n + 1))) := fun o => HL2.out.kp ((Kp.refl wr).alloc _)
        clear HL2 o0 o1 o2 o3 o4 o5 o6 o7 o8 o9 o10 o11
        go_roundg (N - (n + 1))
        case measure => omega
        case rel => exact ⟨n + 1, by go_num, by omega, by omega, HL3.out _, HK.out.alloc _⟩
      · obtain ⟨w2, hw2⟩ : ∃ w2, w2 = wr.alloc (.cells #[.bool true, .int .i64 l.i, .int .i64 l.a, .int .u64 (l.v : Int), .int .u64 (l.p : Int), .int .i64 l.f, .bool l.r, .bool l.q, .bool l.x, .bool l.r2, .bool l.q2, .bool l.x2] 113) := ⟨_, rfl⟩
        have K2 : Kp wr w2 := by rw [hw2]; exact (Kp.refl wr).alloc _
        obtain ⟨v', w3, r1, r2, r3, _⟩ := (HL.out.kp K2).snoc (HK.out.trans K2).size l (by omega)
        have HL2 : Hid (LL w3 w.heap.size v' (lsT T (n + 1))) := by
          show LL w3 w.heap.size v' (lsT T (n + 1))
          rw [e1 rfl]; exact r2
        have HK2 : Hid (Kp w w3) := r3 w (Nat.le_refl _) (HK.out.trans K2)
        have es : w2.heap.size = wr.heap.size + 1 := by rw [hw2]; simp
        rw [es, hw2] at r1
        clear e1 e2 HL HK r2 r3 K2 hw2 es
        repeat' (first | ((with_reducible refine wp_append_of r1 (.tmp 17) (.tmp 20) ?_ ?_ ?_ ?_ ?_); rfl; rfl; rfl; rfl) | go_values | go_skip | go_guarded | go_step | go_upon | go_back | (simp only []) | (go_values <;> (try go_simp)) | (go_ite <;> go_prune <;> (try go_simp)))
        go_roundg (N - (n + 1))
        case measure => omega
        case rel => exact ⟨n + 1, by go_num, by omega, by omega, HL2, HK2⟩
    · have en : n = N := by omega
      subst en
      go_wp2
      go_ret
      exact ⟨⟨_, rfl, HL.out⟩, HK.out⟩
end

end Go.Proofs.Ytclcickhgoiooaa
