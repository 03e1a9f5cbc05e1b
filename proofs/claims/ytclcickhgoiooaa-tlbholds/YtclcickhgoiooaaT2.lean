/- tlb: the row of places; sets, setOf. -/
import Derived.Test.YtclcickhgoiooaaT1
namespace Go.Proofs.Ytclcickhgoiooaa
open Go.RowKit
set_option maxRecDepth 10000

/-! ### rows stored into a block -/
theorem tl_ne {b o b' o' : Nat} (h : b ≠ b' ∨ o ≠ o') : (⟨b, o, none⟩ : Addr) ≠ ⟨b', o', none⟩ := fun e => by cases e; rcases h with c | c <;> exact c rfl
theorem putR_other {b : Nat} : ∀ (U : List Value) (j : Nat) (w : World) (m : Nat), (m < j ∨ j + U.length ≤ m) → (putR w b j U).cell? ⟨b, m, none⟩ = w.cell? ⟨b, m, none⟩
  | [], _, _, _, _ => rfl
  | u :: U, j, w, m, h => by
    rw [List.length_cons] at h
    show (putR (w.setCell ⟨b, j, none⟩ u) b (j + 1) U).cell? _ = _
    rw [putR_other U (j + 1) _ m (by omega), World.cell?_setCell_other _ _ _ _ (tl_ne (.inr (by omega)))]
theorem putR_same {b : Nat} : ∀ (U : List Value) (j : Nat) (w : World), (∀ m, m < U.length → ∃ y, w.cell? ⟨b, j + m, none⟩ = some y) → ∀ m y, U[m]? = some y → (putR w b j U).cell? ⟨b, j + m, none⟩ = some y
  | [], _, _, _, _, _, h => by simp at h
  | u :: U, j, w, hc, 0, y, h => by
    simp at h; subst h
    show (putR (w.setCell ⟨b, j, none⟩ u) b (j + 1) U).cell? _ = _
    obtain ⟨y0, h0⟩ := hc 0 (by simp)
    rw [putR_other U (j + 1) _ (j + 0) (by omega)]
    exact World.cell?_setCell_same _ _ _ h0
  | u :: U, j, w, hc, m + 1, y, h => by
    show (putR (w.setCell ⟨b, j, none⟩ u) b (j + 1) U).cell? _ = _
    rw [show j + (m + 1) = (j + 1) + m by omega]
    refine putR_same U (j + 1) _ (fun n hn => ?_) m y (by simpa using h)
    obtain ⟨y0, h0⟩ := hc (n + 1) (by rw [List.length_cons]; omega)
    exact ⟨y0, by rw [World.cell?_setCell_other _ _ _ _ (tl_ne (.inr (by omega))), show j + 1 + n = j + (n + 1) by omega]; exact h0⟩
theorem putR_fz {b : Nat} : ∀ (U : List Value) (j : Nat) (w : World) (a : Addr), (putR w b j U).frozen? a = w.frozen? a
  | [], _, _, _ => rfl
  | u :: U, j, w, a => by
    show (putR (w.setCell ⟨b, j, none⟩ u) b (j + 1) U).frozen? _ = _
    rw [putR_fz U (j + 1) _ a, World.frozen?_setCell]
theorem putR_size {b : Nat} : ∀ (U : List Value) (j : Nat) (w : World), (putR w b j U).heap.size = w.heap.size
  | [], _, _ => rfl
  | u :: U, j, w => by
    show (putR (w.setCell ⟨b, j, none⟩ u) b (j + 1) U).heap.size = _
    rw [putR_size U (j + 1) _, World.size_setCell]

/-! ### places -/
def updP (T : Nat → PC) (i : Nat) (c : PC) : Nat → PC := fun n => if n = i then c else T n
/-- N places lie in the block g. -/
structure PR (w : World) (g N : Nat) (T : Nat → PC) : Prop where
  lt : g < w.heap.size
  cell : ∀ i j y, i < N → (encP (T i))[j]? = some y → w.cell? ⟨g, i * 12 + j, none⟩ = some y
  fz : ∀ j, w.frozen? ⟨g, j, none⟩ = false
section
variable {w w' : World} {g N : Nat} {T : Nat → PC}
theorem PR.fr (h : PR w g N T) {S : Nat → Prop} (k : Fr S w w') (hS : ¬ S g) : PR w' g N T :=
  ⟨Nat.lt_of_lt_of_le h.lt k.size, fun i j y hi hy => (k.cell (a := ⟨g, i * 12 + j, none⟩) h.lt hS).trans (h.cell i j y hi hy), fun j => (World.frozen?_of_block (a := ⟨g, j, none⟩) (k.block g h.lt hS)).trans (h.fz j)⟩
theorem PR.kp (h : PR w g N T) (k : Kp w w') : PR w' g N T := h.fr (k.fr (fun _ => False)) id
theorem PR.like {T' : Nat → PC} (h : PR w g N T) (e : ∀ i, i < N → T' i = T i) : PR w g N T' := ⟨h.lt, fun i j y hi hy => h.cell i j y hi (by rw [← e i hi]; exact hy), h.fz⟩
theorem PR.put (h : PR w g N T) (i : Nat) (hi : i < N) (c : PC) : PR (putR w g (i * 12) (encP c)) g N (updP T i c) :=
  ⟨by rw [putR_size]; exact h.lt, fun n j y hn hy => by
    have hj : j < 12 := (List.getElem?_eq_some_iff.1 hy).1
    unfold updP at hy
    by_cases e : n = i
    · subst e
      rw [if_pos rfl] at hy
      exact putR_same (encP c) (n * 12) w (fun m hm => ⟨_, h.cell n m _ hn (List.getElem?_eq_getElem (show m < (encP (T n)).length from hm))⟩) j y hy
    · rw [if_neg e] at hy
      rw [putR_other (encP c) (i * 12) w _ (by show n * 12 + j < i * 12 ∨ i * 12 + 12 ≤ n * 12 + j; omega)]
      exact h.cell n j y hn hy, fun j => by rw [putR_fz]; exact h.fz j⟩
end

/-- The TLB at b: s sets of k ways, its places lie in the block g. -/
structure TP (w : World) (b g s k : Nat) (T : Nat → PC) : Prop where
  c0 : w.cell? ⟨b, 0, none⟩ = some (.int .i64 (k : Int))
  c1 : w.cell? ⟨b, 1, none⟩ = some (.slice (some ⟨g, 0, none⟩) (s * k) (s * k))
  row : PR w g (s * k) T
  bl : b < w.heap.size
  ne : b ≠ g
  s0 : 1 ≤ s
  s1 : s ≤ 64
  k0 : 1 ≤ k
  k1 : k ≤ 8
section
variable {w w' : World} {b g s k : Nat} {T : Nat → PC}
theorem TP.fr (h : TP w b g s k T) {S : Nat → Prop} (f : Fr S w w') (h1 : ¬ S b) (h2 : ¬ S g) : TP w' b g s k T :=
  ⟨(f.cell (a := ⟨b, 0, none⟩) h.bl h1).trans h.c0, (f.cell (a := ⟨b, 1, none⟩) h.bl h1).trans h.c1, h.row.fr f h2, Nat.lt_of_lt_of_le h.bl f.size, h.ne, h.s0, h.s1, h.k0, h.k1⟩
theorem TP.kp (h : TP w b g s k T) (f : Kp w w') : TP w' b g s k T := h.fr (f.fr (fun _ => False)) id id
theorem TP.n1 (h : TP w b g s k T) : s * k ≤ 512 := Nat.le_trans (Nat.mul_le_mul h.s1 h.k1) (by decide)
theorem TP.put (h : TP w b g s k T) (i : Nat) (hi : i < s * k) (c : PC) : TP (putR w g (i * 12) (encP c)) b g s k (updP T i c) := by
  have f := putR_fr w g (i * 12) (encP c)
  exact ⟨(f.cell (a := ⟨b, 0, none⟩) h.bl h.ne).trans h.c0, (f.cell (a := ⟨b, 1, none⟩) h.bl h.ne).trans h.c1, h.row.put i hi c, Nat.lt_of_lt_of_le h.bl f.size, h.ne, h.s0, h.s1, h.k0, h.k1⟩

set_option maxHeartbeats 1000000 in
theorem sets_any (h : TP w b g s k T) :
    Calls Try.prog 51 #[.pointer (some ⟨b, 0, none⟩)] w fun e w' => e = .returned (.int .i64 (s : Int)) ∧ Dr w w' := by
  have c0 := h.c0
  have c1 := h.c1
  have k0 := h.k0
  have n1 := h.n1
  have e1 : ((s * k : Nat) : Int).tdiv (k : Int) = (s : Int) := by
    rw [← Int.ofNat_tdiv, Nat.mul_div_cancel _ k0]
  have s1 := h.s1
  generalize s * k = N at *
  clear h
  have z : ¬ (k : Int) = 0 := by omega
  have z2 : ¬ k = 0 := by omega
  go_enter Try.func51, Try.ntmps51
  go_wp2_with fail
  go_quiet (fail)
  go_wp2
  go_ret
  exact ⟨rfl, ⟨_, rfl⟩⟩

set_option maxHeartbeats 1000000 in
theorem setOf_any (h : TP w b g s k T) (v f : Nat) (hf : v % s * k = f) :
    Calls Try.prog 41 #[.pointer (some ⟨b, 0, none⟩), .int .u64 (v : Int)] w fun e w' => e = .returned (.slice (some ⟨g, f * 12, none⟩) k (s * k - f)) ∧ Dr w w' := by
  have c0 := h.c0
  have c1 := h.c1
  have n1 := h.n1
  have s1 := h.s1
  have s0 := h.s0
  have k1 := h.k1
  have k0 := h.k0
  have cS : ∀ n, Calls Try.prog 51 #[.pointer (some ⟨b, 0, none⟩)] (w.drewN n) fun e w' => e = .returned (.int .i64 (s : Int)) ∧ ∃ m, w' = (w.drewN n).drewN m := fun n => sets_any (h.kp ((Kp.refl w).drewN n))
  have hf2 : f + k ≤ s * k := by
    have := Nat.mul_le_mul_right k (show v % s + 1 ≤ s from Nat.mod_lt _ (by omega))
    rw [Nat.add_mul] at this
    omega
  generalize s * k = N at *
  obtain ⟨m, hm⟩ : ∃ m, v % s = m := ⟨_, rfl⟩
  have m1 : m < s := by rw [← hm]; exact Nat.mod_lt _ (by omega)
  rw [hm] at hf
  have e1 : ((v : Int).tmod (s : Int)) = (m : Int) := by rw [← hm]; rfl
  have e2 : (m : Int) * (k : Int) = (f : Int) := by rw [← hf]; exact (Int.natCast_mul m k).symm
  clear h hm hf
  have z : ¬ (s : Int) = 0 := by omega
  have z2 : ¬ s = 0 := by omega
  go_enter Try.func41, Try.ntmps41
  go_wp2_with fail
  go_quiet (first | (go_at_call 51; refine Calls.quiet_of (cS _)))
  go_wp2_with fail
  clear cS e1 e2 z z2
  have y1 : (f : Int) + (k : Int) ≤ (N : Int) := by omega
  have y2 : (N : Int) ≤ 512 := by omega
  have y3 : ¬ N = f := by omega
  go_quiet (fail)
  go_wp2
  go_ret
  exact ⟨by show Ending.returned (.slice (some ⟨g, f * 12, none⟩) (f + k - f) (N - f)) = _; rw [Nat.add_sub_cancel_left], ⟨_, by rw [World.drewN_drewN]⟩⟩
end

end Go.Proofs.Ytclcickhgoiooaa
