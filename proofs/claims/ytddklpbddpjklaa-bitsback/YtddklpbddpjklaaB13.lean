/- few: bytes that came in, copied. -/
import Derived.Test.YtddklpbddpjklaaB9
namespace Go.Proofs.Ytddklpbddpjklaa
open Go.RowKit Go.ChangeShapes Go.WideShapes Go.ChangeAt

theorem slice_cap {H : Type} {enc : TypeId × Value → H} {P : Program} {w : World} {base : Nat} {spare : Nat → Bool} {held : Bool} {t e : TypeId} {fuel : Nat} {cs : List Value} {x : DataW H × List MemPlace} {na : Option Addr} {m mcap : Nat}
    (ht : P.underlying t = some (.slice e)) (h : DataW.trod enc P w base spare held fuel t cs = some x) (hc : cs = [.slice na m mcap]) : m ≤ mcap ∧ (na = none → mcap = 0) := by
  subst hc
  rcases DataW.trod_slice ht h with ⟨h0, _⟩ | ⟨a, len, cap, elems, rest, n, _, h0, rfl, hb, hl, _⟩
  · simp at h0; omega
  · simp at h0
    obtain ⟨rfl, rfl, rfl⟩ := h0
    exact ⟨by omega, fun e => by cases e⟩

/-- The bytes that came in. -/
def fb (f : Nat → Int) : Nat → Nat := fun i => (f i % 256).toNat
theorem fb_byte (f : Nat → Int) : Bytes (fb f) := fun i => by unfold fb; omega
theorem wf_u8 {n : Int} (h : (Lit.int .u8 n).wf = true) : 0 ≤ n ∧ n < 256 := by
  simp [Lit.wf, IntKind.min, IntKind.max, IntKind.bits, IntKind.signed] at h
  omega
theorem nsk_cells {w : World} {na : Option Addr} {m n : Nat} {f : Nat → Int} (N : NSK .u8 w na m f) (h0 : 0 < n) (hn : n ≤ m) : ∃ b o, na = some ⟨b, o, none⟩ ∧ b < w.heap.size ∧ Cells w b o n (fb f) := by
  obtain ⟨⟨b, o, h1, h2, _⟩, _⟩ := N 0 (by omega)
  refine ⟨b, o, h1, h2, fun i hi => ?_⟩
  obtain ⟨⟨b', o', g1, _, g3⟩, g4⟩ := N i (by omega)
  rw [h1] at g1
  cases g1
  have := wf_u8 g4
  rw [g3, show ((fb f i : Nat) : Int) = f i by unfold fb; omega]

/-- append([]byte{}, b[:n]...), n at most the length of b. -/
theorem copy_in (w : World) (na : Option Addr) (m n cap : Nat) (f : Nat → Int) (N : NSK .u8 w na m f) (hn : n ≤ m) (hc : na = none → cap = 0) (h1 : n ≤ 1000000) :
    ∃ g cap' W', (Builtin.append_ #[22, 22] 22 #[.slice (some ⟨w.heap.size, 0, none⟩) 0 0, .slice na n cap]).run Try.prog (w.alloc (.cells #[] 5)) = .ok (.slice (some ⟨g, 0, none⟩) n cap') W' ∧ OP W' w.heap.size g n cap' (fb f) ∧ Kp w W' := by
  by_cases h0 : 0 < n
  · obtain ⟨b, o, rfl, hlt, C⟩ := nsk_cells N h0 hn
    exact copy_any w b o n cap (fb f) hlt C (fb_byte f) h1
  · have e : n = 0 := by omega
    subst e
    have hk : Kp w (w.alloc (.cells #[] 5)) := (Kp.refl w).alloc _
    match na, hc with
    | none, hc =>
      have e := hc rfl
      subst e
      obtain ⟨k1, k2⟩ := copy_none w (fb f) (fb_byte f)
      exact ⟨_, _, _, k1, k2, hk⟩
    | some a, _ =>
      obtain ⟨i0, hi, hz0, hz1, hz2⟩ := info_u8
      obtain ⟨v', W', h1, h2, h3, h4⟩ := run_append_own (P := Try.prog) (w.alloc (.cells #[] 5)) w.heap.size 22 22 5 i0 (.int .u8 0) 1 1 Try.underlying22 hi hz0 hz1 hz2 rfl (by decide) _ 0 [] (own_empty w) a 0 cap [] rfl (fun j u hu => by simp at hu) (fun u hu => by simp at hu) (by decide) (by decide) (by simp)
      obtain ⟨g, cap', rfl, k1⟩ := own_op (f := fb f) (n := 0) h2 (fun e => by have := (h4.1 e).1; cases this) (fb_byte f)
      exact ⟨g, cap', W', h1, k1, kp_grown hk (fun g hg => by cases hg; exact Nat.le_refl _) h3⟩

theorem snoc_165 (W : World) (base g n cap : Nat) (f : Nat → Nat) (H : OP W base g n cap f) (hbase : base ≤ W.heap.size) (hn : n ≤ 1000000) :
    ∃ g' cap' W', (Builtin.append_ #[22, 22] 22 #[.slice (some ⟨g, 0, none⟩) n cap, .slice (some ⟨W.heap.size, 0, none⟩) 1 1]).run Try.prog (W.alloc (.cells #[.int .u8 165] 5)) = .ok (.slice (some ⟨g', 0, none⟩) (n + 1) cap') W' ∧
      OP W' base g' (n + 1) cap' (upd f n 165) ∧ (∀ W0, W0.heap.size ≤ base → Kp W0 W → Kp W0 W') := snoc_any W base g n cap 165 f H (by decide) hbase hn

set_option maxHeartbeats 4000000 in
set_option maxRecDepth 10000 in
theorem few_200 (w : World) (na : Option Addr) (m cap : Nat) (f : Nat → Int) (N : NSK .u8 w na m f) (hm : m ≤ cap) (hc : na = none → cap = 0) (h1 : 200 < m) (h2 : m ≤ 9223372036854775807) :
    Calls Try.prog 9 #[.slice na m cap] w fun e w' => ∃ g cap', e = .returned (.slice (some ⟨g, 0, none⟩) 200 cap') ∧ OP w' w.heap.size g (200 + 1) cap' (upd (fb f) 200 165) ∧ Kp w w' := by
  obtain ⟨g, c1, W1, r1, O1, K1⟩ := copy_in w na m 200 cap f N (by omega) hc (by omega)
  obtain ⟨g2, c2, W2, r2, O2, K2⟩ := snoc_165 W1 w.heap.size g 200 c1 (fb f) O1 K1.size (by omega)
  have HO : Hid (OP W2 w.heap.size g2 (200 + 1) c2 (upd (fb f) 200 165)) := O2
  have HK : Hid (Kp w W2) := K2 w (Nat.le_refl _) K1
  have z2 : (m : Int) ≤ cap := by omega
  have z3 : (200 : Int) + 1 ≤ c2 := by have := O2.facts.2.2; omega
  have z4 : (200 : Int) < m := by omega
  have z5 : (m : Int) ≤ 9223372036854775807 := by omega
  clear O1 K1 O2 K2 N hc
  go_enter Try.func9, Try.ntmps9
  repeat' (first | ((with_reducible refine wp_append_of r1 (.tmp 7) (.tmp 10) ?_ ?_ ?_ ?_ ?_); rfl; rfl; rfl; rfl) | ((with_reducible refine wp_append_of r2 (.tmp 11) (.tmp 12) ?_ ?_ ?_ ?_ ?_); rfl; rfl; rfl; rfl) | go_values | go_skip | go_guarded | go_step | go_upon | go_back | (simp only []) | (go_values <;> (try go_simp)) | (go_ite <;> go_prune <;> (try go_simp)))
  go_ret
  exact ⟨g2, c2, rfl, HO.out, HK.out⟩

set_option maxHeartbeats 4000000 in
set_option maxRecDepth 10000 in
theorem few_m (w : World) (na : Option Addr) (m cap : Nat) (f : Nat → Int) (N : NSK .u8 w na m f) (hm : m ≤ cap) (hc : na = none → cap = 0) (h1 : m ≤ 200) :
    Calls Try.prog 9 #[.slice na m cap] w fun e w' => ∃ g cap', e = .returned (.slice (some ⟨g, 0, none⟩) m cap') ∧ OP w' w.heap.size g (m + 1) cap' (upd (fb f) m 165) ∧ Kp w w' := by
  obtain ⟨g, c1, W1, r1, O1, K1⟩ := copy_in w na m m cap f N (by omega) hc (by omega)
  obtain ⟨g2, c2, W2, r2, O2, K2⟩ := snoc_165 W1 w.heap.size g m c1 (fb f) O1 K1.size (by omega)
  have HO : Hid (OP W2 w.heap.size g2 (m + 1) c2 (upd (fb f) m 165)) := O2
  have HK : Hid (Kp w W2) := K2 w (Nat.le_refl _) K1
  have z2 : (m : Int) ≤ cap := by omega
  have z3 : (m : Int) + 1 ≤ c2 := by have := O2.facts.2.2; omega
  have z4 : ¬ (200 : Int) < m := by omega
  have z5 : (m : Int) ≤ 9223372036854775807 := by omega
  clear O1 K1 O2 K2 N hc
  go_enter Try.func9, Try.ntmps9
  repeat' (first | ((with_reducible refine wp_append_of r1 (.tmp 7) (.tmp 10) ?_ ?_ ?_ ?_ ?_); rfl; rfl; rfl; rfl) | ((with_reducible refine wp_append_of r2 (.tmp 11) (.tmp 12) ?_ ?_ ?_ ?_ ?_); rfl; rfl; rfl; rfl) | go_values | go_skip | go_guarded | go_step | go_upon | go_back | (simp only []) | (go_values <;> (try go_simp)) | (go_ite <;> go_prune <;> (try go_simp)))
  go_ret
  exact ⟨g2, c2, rfl, HO.out, HK.out⟩

theorem few_any (w : World) (na : Option Addr) (m cap : Nat) (f : Nat → Int) (N : NSK .u8 w na m f) (hm : m ≤ cap) (hc : na = none → cap = 0) (h2 : m ≤ 9223372036854775807) :
    ∃ n, n ≤ 200 ∧ n ≤ m ∧ Calls Try.prog 9 #[.slice na m cap] w fun e w' => ∃ g cap', e = .returned (.slice (some ⟨g, 0, none⟩) n cap') ∧ OP w' w.heap.size g (n + 1) cap' (upd (fb f) n 165) ∧ Kp w w' := by
  by_cases c : 200 < m
  · exact ⟨200, by omega, by omega, few_200 w na m cap f N hm hc c h2⟩
  · exact ⟨m, by omega, by omega, few_m w na m cap f N hm hc (by omega)⟩

end Go.Proofs.Ytddklpbddpjklaa
