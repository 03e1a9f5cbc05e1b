/- A page's copy. -/
import Derived.Test.YtcejdeafdlbheaaD9
namespace Go.Proofs.Ytcejdeafdlbheaa
open Go.RowKit

/-- A page's bytes, as cells. -/
def bytesOf (f : Nat → Nat) (n : Nat) : List Value := (List.range n).map fun i => .int .u8 ((f i : Nat) : Int)
theorem bytesOf_len (f : Nat → Nat) (n : Nat) : (bytesOf f n).length = n := by simp [bytesOf]
theorem bytesOf_get (f : Nat → Nat) (n i : Nat) (h : i < n) : (bytesOf f n)[i]? = some (.int .u8 ((f i : Nat) : Int)) := by simp [bytesOf, h]
theorem bytesOf_one (f : Nat → Nat) (n : Nat) : ∀ u ∈ bytesOf f n, u.oneCell' = true := by
  intro u hu
  simp only [bytesOf, List.mem_map] at hu
  obtain ⟨i, _, rfl⟩ := hu
  rfl

theorem own_page {W : World} {base n : Nat} {v : Value} {f : Nat → Nat} (h : W.ownsRow base 5 1 v n (bytesOf f n)) (hn : 0 < n) (hb : Bytes f) :
    ∃ g cap, v = .slice (some ⟨g, 0, none⟩) n cap ∧ base ≤ g ∧ n ≤ cap ∧ BS W g 0 n f := by
  have hc := fun g (hg : v.ownBlock = some g) => World.ownsRow.cells h hg
  obtain ⟨_, h | ⟨g, cap, cur, rfl, h1, h2, h3, h4, h5, h6⟩⟩ := h
  · omega
  · refine ⟨g, cap, rfl, h1, h3, ?_, fun i hi => ?_, fun i hi => ?_, hb⟩
    · by_cases hh : g < W.heap.size
      · exact hh
      · rw [show W.heap[g]? = none from by simp; omega] at h2
        cases h2
    · have := hc g rfl i _ (bytesOf_get f n i hi)
      have ea : (Addr.mk g 0 none).add i = ⟨g, 0 + i, none⟩ := by
        unfold Addr.add
        split
        · rename_i h0; subst h0; rfl
        · rfl
      rw [ea] at this
      exact this
    · simp [World.frozen?, h2]

theorem own_empty (W : World) : (W.alloc (.cells #[] 5)).ownsRow W.heap.size 5 1 (.slice (some ⟨W.heap.size, 0, none⟩) 0 0) 0 [] :=
  ⟨rfl, .inr ⟨W.heap.size, 0, #[], rfl, Nat.le_refl _, by show (W.heap.push _)[W.heap.size]? = _; exact Array.getElem?_push_size, Nat.le_refl _, Nat.zero_le _, rfl, rfl⟩⟩

theorem kp_grown {W W1 W' : World} {g : Nat} (h : Kp W W1) (hg : W.heap.size ≤ g) (k : W1.grownBy W' (some g)) : Kp W W' :=
  ⟨k.os.trans h.os, k.tape.trans h.tape, k.output.trans h.output, Nat.le_trans h.size k.size, fun i hi => (k.block i (Nat.lt_of_lt_of_le hi h.size) (by simp; omega)).trans (h.block i hi)⟩

theorem BS.news {W : World} {b n : Nat} {f : Nat → Nat} (H : BS W b 0 n f) : ∀ j u, (bytesOf f n)[j]? = some u → W.cell? ((⟨b, 0, none⟩ : Addr).add j) = some u := by
  intro j u hu
  have hj : j < n := by
    have := (List.getElem?_eq_some_iff.1 hu).1
    rwa [bytesOf_len] at this
  rw [bytesOf_get f n j hj] at hu
  rw [← hu]
  have ea : (Addr.mk b 0 none).add j = ⟨b, 0 + j, none⟩ := by
    unfold Addr.add
    split
    · rename_i h0; subst h0; rfl
    · rfl
  rw [ea]; exact H.cell j hj

/-- append([]byte{}, p...): a copy of its own. -/
theorem copy_page (W : World) (b cap0 : Nat) (f : Nat → Nat) (H : BS W b 0 4096 f) :
    ∃ g cap W', (Builtin.append_ #[23, 23] 23 #[.slice (some ⟨W.heap.size, 0, none⟩) 0 0, .slice (some ⟨b, 0, none⟩) 4096 cap0]).run Try.prog (W.alloc (.cells #[] 5)) = .ok (.slice (some ⟨g, 0, none⟩) 4096 cap) W' ∧
      W.heap.size ≤ g ∧ 4096 ≤ cap ∧ BS W' g 0 4096 f ∧ Kp W W' ∧ W'.ownsRow W.heap.size 5 1 (.slice (some ⟨g, 0, none⟩) 4096 cap) 4096 (bytesOf f 4096) := by
  obtain ⟨i0, hi, hz0, hz1, hz2⟩ := info_u8
  have hk : Kp W (W.alloc (.cells #[] 5)) := (Kp.refl W).alloc _
  have H1 := H.kp hk
  obtain ⟨v', W', h1, h2, h3, _⟩ := run_append_own (P := Try.prog) (W.alloc (.cells #[] 5)) W.heap.size 23 23 5 i0 (.int .u8 0) 1 1 Try.underlying23 hi hz0 hz1 hz2 rfl (by decide) _ 0 [] (own_empty W) ⟨b, 0, none⟩ 4096 cap0 (bytesOf f 4096) (by rw [bytesOf_len]) H1.news (bytesOf_one f 4096) (by decide) (by decide) (by simp)
  rw [List.nil_append, Nat.zero_add] at h2
  have h4 := h2
  obtain ⟨g, cap, rfl, k1, k2, k3⟩ := own_page h2 (by decide) H.byte
  exact ⟨g, cap, W', h1, k1, k2, k3, kp_grown hk (Nat.le_refl _) h3, h4⟩

/-- An append whose run is known. -/
theorem wp_append_run {P : Program} {w : World} {o : Oper} {a : Act} {K : Act → World → Prop} {Q : Exit → Act → World → Prop} (s x : Operand) (t : TypeId)
    (ho : o.op = .call { callee := .builtin .append, args := #[s, x], argTypes := #[t, t] }) {vs vx v' : Value} {w' : World} (hs : a.eval s = vs) (hx : a.eval x = vx)
    (hr : (Builtin.append_ #[t, t] o.type #[vs, vx]).run P w = .ok v' w') (h : K (a.put o.dst v') w') : o.wp P a w K Q := by
  unfold Oper.wp execOp
  simp only [ho, resolve, invoke, builtin, Sem.run_bind, Sem.run_pure, Result.andThen_ok, List.map_toArray, List.map_cons, List.map_nil, hs, hx, hr]
  exact h

end Go.Proofs.Ytcejdeafdlbheaa
