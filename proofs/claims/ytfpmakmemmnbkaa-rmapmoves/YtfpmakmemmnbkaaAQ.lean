/- rmap: two maps of the program's, beside one another. -/
import Derived.Test.YtfpmakmemmnbkaaAN
import Derived.Test.YtfpmakmemmnbkaaAM
import Derived.Test.YtfpmakmemmnbkaaMask
namespace Go.Proofs.Ytfpmakmemmnbkaa
open Go.RowKit
set_option maxRecDepth 10000

theorem kp_known {w w' : World} (k : Kp w w') {a : Addr} {v : Value} (c : w.cell? a = some v) : w'.cell? a = some v := (k.cell (block_lt_of_cell c)).trans c
/-- Both, behind W. -/
structure PBo (W w : World) (p q : Nat) (T1 T2 : List UC) : Prop where
  ex : ∃ U1 b1 g1 K1 U2 b2 g2 K2, RMp w p U1 b1 g1 K1 T1 ∧ RMp w q U2 b2 g2 K2 T2 ∧ (∀ i, U1 i → ¬ U2 i) ∧ (∀ i, U1 i → W.heap.size ≤ i) ∧ (∀ i, U2 i → W.heap.size ≤ i)
  k : Kp W w
section
variable {W w w' : World} {p q : Nat} {T1 T2 : List UC}
theorem PBo.kp (h : PBo W w p q T1 T2) (k : Kp w w') : PBo W w' p q T1 T2 := by
  obtain ⟨⟨U1, b1, g1, K1, U2, b2, g2, K2, h1, h2, h3⟩, h4⟩ := h
  exact ⟨⟨U1, b1, g1, K1, U2, b2, g2, K2, h1.kp k, h2.kp k, h3⟩, h4.trans k⟩
theorem PBo.swap (h : PBo W w p q T1 T2) : PBo W w q p T2 T1 := by
  obtain ⟨⟨U1, b1, g1, K1, U2, b2, g2, K2, h1, h2, h3, h5, h6⟩, h4⟩ := h
  exact ⟨⟨U2, b2, g2, K2, U1, b1, g1, K1, h2, h1, fun i a b => h3 i b a, h6, h5⟩, h4⟩
theorem PBo.made {W w w1 w2 : World} {p q : Nat} (k : Kp W w) (h1 : ∃ U bm g K, RMp w1 p U bm g K [] ∧ Kp w w1 ∧ ∀ i, U i → w.heap.size ≤ i) (h2 : ∃ U bm g K, RMp w2 q U bm g K [] ∧ Kp w1 w2 ∧ ∀ i, U i → w1.heap.size ≤ i) : PBo W w2 p q [] [] := by
  obtain ⟨U1, b1, g1, K1, m1, k1, u1⟩ := h1
  obtain ⟨U2, b2, g2, K2, m2, k2, u2⟩ := h2
  refine ⟨⟨U1, b1, g1, K1, U2, b2, g2, K2, m1.kp k2, m2, fun i a b => ?_, fun i a => Nat.le_trans k.size (u1 i a), fun i a => Nat.le_trans (k.trans k1).size (u2 i a)⟩, (k.trans k1).trans k2⟩
  have := m1.lim i a
  have := u2 i b
  omega
theorem PBo.um {U1 : Nat → Prop} {b1 : Nat} {g1 : Int → Option Nat} {K1 : List Int} {U2 : Nat → Prop} {b2 : Nat} {g2 : Int → Option Nat} {K2 : List Int} {T' : List UC} (_h1 : RMp w p U1 b1 g1 K1 T1) (h2 : RMp w q U2 b2 g2 K2 T2) (h3 : ∀ i, U1 i → ¬ U2 i) (h4 : ∀ i, U1 i → W.heap.size ≤ i) (h5 : ∀ i, U2 i → W.heap.size ≤ i) (k : Kp W w) (u : UM w w' p U1 T') : PBo W w' p q T' T2 := by
  obtain ⟨U', bm', g', K', m, f, s⟩ := u
  refine ⟨⟨U', bm', g', K', U2, b2, g2, K2, m, h2.fr f (fun i a b => h3 i b a), fun i a b => ?_, fun i a => ?_, h5⟩, f.kp k h4⟩
  · rcases s i a with c | c
    · exact h3 i c b
    · have := h2.lim i b; omega
  · rcases s i a with c | c
    · exact h4 i c
    · exact Nat.le_trans k.size c
theorem PBo.add1 (h : PBo W w p q T1 T2) (u : UC) (hu : okU u) (hl : T1.length ≤ 100) : Calls Try.prog 7 #[.pointer (some ⟨p, 0, none⟩), .int .i64 u.1, plV u.2] w fun e w' => e = .returned (.int .i64 (addN T1 u)) ∧ PBo W w' p q (addT T1 u) T2 := by
  obtain ⟨U1, b1, g1, K1, U2, b2, g2, K2, h1, h2, h3, h4, h5⟩ := h.ex
  exact (madd_any h1 u.1 u.2 hu (by omega)).mono fun _ _ ⟨q1, q2⟩ => ⟨q1, PBo.um h1 h2 h3 h4 h5 h.k q2⟩
theorem PBo.add2 (h : PBo W w p q T1 T2) (u : UC) (hu : okU u) (hl : T2.length ≤ 100) : Calls Try.prog 7 #[.pointer (some ⟨q, 0, none⟩), .int .i64 u.1, plV u.2] w fun e w' => e = .returned (.int .i64 (addN T2 u)) ∧ PBo W w' p q T1 (addT T2 u) :=
  (h.swap.add1 u hu hl).mono fun _ _ ⟨q1, q2⟩ => ⟨q1, q2.swap⟩
theorem PBo.drop1 (h : PBo W w p q T1 T2) (u : UC) (hu : okU u) (hl : T1.length ≤ 100) : Calls Try.prog 9 #[.pointer (some ⟨p, 0, none⟩), .int .i64 u.1, plV u.2] w fun e w' => e = .returned (.int .i64 (drpN T1 u)) ∧ PBo W w' p q (T1.erase u) T2 := by
  obtain ⟨U1, b1, g1, K1, U2, b2, g2, K2, h1, h2, h3, h4, h5⟩ := h.ex
  exact (mdrop_any h1 u.1 u.2 hu (by omega)).mono fun _ _ ⟨q1, q2⟩ => ⟨q1, PBo.um h1 h2 h3 h4 h5 h.k q2⟩
theorem PBo.drop2 (h : PBo W w p q T1 T2) (u : UC) (hu : okU u) (hl : T2.length ≤ 100) : Calls Try.prog 9 #[.pointer (some ⟨q, 0, none⟩), .int .i64 u.1, plV u.2] w fun e w' => e = .returned (.int .i64 (drpN T2 u)) ∧ PBo W w' p q T1 (T2.erase u) :=
  (h.swap.drop1 u hu hl).mono fun _ _ ⟨q1, q2⟩ => ⟨q1, q2.swap⟩
theorem PBo.has1 (h : PBo W w p q T1 T2) (u : UC) (hu : okU u) : Calls Try.prog 13 #[.pointer (some ⟨p, 0, none⟩), .int .i64 u.1, plV u.2] w fun e w' => e = .returned (.bool (decide (u ∈ T1))) ∧ PBo W w' p q T1 T2 ∧ Kp w w' := by
  obtain ⟨U1, b1, g1, K1, U2, b2, g2, K2, h1, _⟩ := h.ex
  exact (mhas_any h1 u.1 u.2 hu).mono fun _ _ ⟨q1, q2⟩ => ⟨q1, h.kp q2, q2⟩
theorem PBo.list1 (h : PBo W w p q T1 T2) (f : Int) (hf : (Lit.int .i64 f).wf = true) (hl : T1.length ≤ 100) : Calls Try.prog 11 #[.pointer (some ⟨p, 0, none⟩), .int .i64 f] w fun e w' => (∃ v, e = .returned v ∧ SVw LTp w' v (srtP (usT T1 f))) ∧ PBo W w' p q T1 T2 ∧ Kp w w' := by
  obtain ⟨U1, b1, g1, K1, U2, b2, g2, K2, h1, _⟩ := h.ex
  exact (mlist_any h1 f hf (by omega)).mono fun _ _ ⟨v, q1, q2, q3⟩ => ⟨⟨v, q1, q2.sv okT_place⟩, h.kp q3, q3⟩
theorem PBo.list2 (h : PBo W w p q T1 T2) (f : Int) (hf : (Lit.int .i64 f).wf = true) (hl : T2.length ≤ 100) : Calls Try.prog 11 #[.pointer (some ⟨q, 0, none⟩), .int .i64 f] w fun e w' => (∃ v, e = .returned v ∧ SVw LTp w' v (srtP (usT T2 f))) ∧ PBo W w' p q T1 T2 ∧ Kp w w' :=
  (h.swap.list1 f hf hl).mono fun _ _ ⟨q1, q2, q3⟩ => ⟨q1, q2.swap, q3⟩
theorem PBo.frames1 (h : PBo W w p q T1 T2) (hl : T1.length ≤ 100) : Calls Try.prog 12 #[.pointer (some ⟨p, 0, none⟩)] w fun e w' => (∃ v, e = .returned v ∧ SVw LTi w' v (frT T1)) ∧ PBo W w' p q T1 T2 ∧ Kp w w' := by
  obtain ⟨U1, b1, g1, K1, U2, b2, g2, K2, h1, _⟩ := h.ex
  exact (mframes_any h1 (by omega)).mono fun _ _ ⟨v, q1, q2, q3⟩ => ⟨⟨v, q1, q2.sv okT_num⟩, h.kp q3, q3⟩
theorem PBo.frames2 (h : PBo W w p q T1 T2) (hl : T2.length ≤ 100) : Calls Try.prog 12 #[.pointer (some ⟨q, 0, none⟩)] w fun e w' => (∃ v, e = .returned v ∧ SVw LTi w' v (frT T2)) ∧ PBo W w' p q T1 T2 ∧ Kp w w' :=
  (h.swap.frames1 hl).mono fun _ _ ⟨q1, q2, q3⟩ => ⟨q1, q2.swap, q3⟩
theorem PBo.nd1 (h : PBo W w p q T1 T2) : T1.Nodup := by
  obtain ⟨U1, b1, g1, K1, U2, b2, g2, K2, h1, _⟩ := h.ex
  exact h1.nd
theorem PBo.ok1 (h : PBo W w p q T1 T2) : ∀ t ∈ T1, okU t := by
  obtain ⟨U1, b1, g1, K1, U2, b2, g2, K2, h1, _⟩ := h.ex
  exact h1.ok
end
/-! What the two lists hold. -/
theorem addT_mem (T : List UC) (u x : UC) (hu : 0 ≤ u.1) : x ∈ addT T u ↔ x ∈ T ∨ x = u := by
  have hn : ¬ u.1 < 0 := by omega
  unfold addT
  rw [if_neg hn]
  split
  · rename_i h
    exact ⟨.inl, fun c => c.elim id (fun e => e ▸ h)⟩
  · simp
theorem frL_len (T : List UC) : (frT T).length ≤ T.length := by
  unfold frT
  rw [(srtI_perm _).length_eq]
  have := nodup_le (K := ddI (T.map (·.1))) (M := T.map (·.1)) (ddI_nodup _) (fun x hx => ddI_mem.1 hx)
  simpa using this
/-- The lists hold the same. -/
def AlkT (T1 T2 : List UC) : Prop := T1.Perm T2
theorem AlkT.of {T1 T2 : List UC} (n1 : T1.Nodup) (n2 : T2.Nodup) (h : ∀ x, x ∈ T1 ↔ x ∈ T2) : AlkT T1 T2 := (List.perm_ext_iff_of_nodup n1 n2).2 h
theorem AlkT.erase {T1 T2 : List UC} (h : AlkT T1 T2) (u : UC) : AlkT (T1.erase u) (T2.erase u) := List.Perm.erase u h
theorem AlkT.drpN {T1 T2 : List UC} (h : AlkT T1 T2) (u : UC) : drpN T1 u = drpN T2 u := by
  unfold Go.Proofs.Ytfpmakmemmnbkaa.drpN
  simp only [h.mem_iff]
theorem AlkT.list {T1 T2 : List UC} (h : AlkT T1 T2) (f : Int) : srtP (usT T1 f) = srtP (usT T2 f) := srtP_like ((List.Perm.filter _ h).map _)
theorem AlkT.frames {T1 T2 : List UC} (n : AlkT T1 T2) : frT T1 = frT T2 := by
  unfold frT
  refine srtI_like ((List.perm_ext_iff_of_nodup (ddI_nodup _) (ddI_nodup _)).2 fun x => ?_)
  rw [ddI_mem, ddI_mem]
  exact (n.map _).mem_iff
/-- The i-th use: its frame is one of four. -/
def us4 (V : Nat → Int × UC) (k : Nat) : UC := ((V k).2.1 % 4, (V k).2.2)
theorem us4_ok {V : Nat → Int × UC} {k : Nat} (h : okU (V k).2) : okU (us4 V k) := by
  refine ⟨?_, h.2⟩
  unfold us4
  have : 0 ≤ (V k).2.1 % 4 ∧ (V k).2.1 % 4 < 4 := ⟨Int.emod_nonneg _ (by decide), Int.emod_lt_of_pos _ (by decide)⟩
  exact WalkArith.wf_i64 (by omega)
theorem us4_pos (V : Nat → Int × UC) (k : Nat) : 0 ≤ (us4 V k).1 := Int.emod_nonneg _ (by decide)
/-- T holds the uses from lo on, up to hi. -/
def Has4 (V : Nat → Int × UC) (lo hi : Nat) (T : List UC) : Prop := ∀ x, x ∈ T ↔ ∃ k, lo ≤ k ∧ k < hi ∧ x = us4 V k
theorem Has4.nil (V : Nat → Int × UC) (n : Nat) : Has4 V n n [] := fun x => ⟨(fun h => by cases h), fun ⟨k, h1, h2, _⟩ => by omega⟩
theorem Has4.up {V : Nat → Int × UC} {lo hi : Nat} {T : List UC} (h : Has4 V lo hi T) (hl : lo ≤ hi) : Has4 V lo (hi + 1) (addT T (us4 V hi)) := fun x => by
  rw [addT_mem _ _ _ (us4_pos _ _), h x]
  constructor
  · rintro (⟨k, h1, h2, h3⟩ | h3)
    · exact ⟨k, h1, by omega, h3⟩
    · exact ⟨hi, hl, by omega, h3⟩
  · rintro ⟨k, h1, h2, h3⟩
    by_cases e : k = hi
    · subst e; exact .inr h3
    · exact .inl ⟨k, h1, by omega, h3⟩
theorem Has4.down {V : Nat → Int × UC} {lo hi : Nat} {T : List UC} (h : Has4 V (lo + 1) hi T) (hl : lo < hi) : Has4 V lo hi (addT T (us4 V lo)) := fun x => by
  rw [addT_mem _ _ _ (us4_pos _ _), h x]
  constructor
  · rintro (⟨k, h1, h2, h3⟩ | h3)
    · exact ⟨k, by omega, h2, h3⟩
    · exact ⟨lo, by omega, hl, h3⟩
  · rintro ⟨k, h1, h2, h3⟩
    by_cases e : k = lo
    · subst e; exact .inr h3
    · exact .inl ⟨k, by omega, h2, h3⟩
theorem Has4.alk {V : Nat → Int × UC} {lo hi : Nat} {T1 T2 : List UC} (h1 : Has4 V lo hi T1) (h2 : Has4 V lo hi T2) (n1 : T1.Nodup) (n2 : T2.Nodup) : AlkT T1 T2 := AlkT.of n1 n2 fun x => by rw [h1 x, h2 x]
/-- A list as it is told: in order, each one used. -/
theorem told_order {T : List UC} (nd : T.Nodup) (f : Int) {L : List PLc} (hL : srtP (usT T f) = L) : (∀ x ∈ L, (f, x) ∈ T) ∧ ∀ i x y, L[i]? = some x → L[i + 1]? = some y → x.1 < y.1 ∨ (x.1 = y.1 ∧ x.2 < y.2) := by
  subst hL
  have hp := srtP_perm (usT T f)
  refine ⟨fun x hx => usT_mem.1 (hp.mem_iff.1 hx), fun i x y hx hy => ?_⟩
  obtain ⟨l1, e1⟩ := List.getElem?_eq_some_iff.1 hx
  obtain ⟨l2, e2⟩ := List.getElem?_eq_some_iff.1 hy
  have r := List.pairwise_iff_getElem.1 (srtP_rise (usT T f)) i (i + 1) l1 l2 (by omega)
  have n := List.pairwise_iff_getElem.1 (hp.nodup_iff.2 (usT_nodup nd f)) i (i + 1) l1 l2 (by omega)
  rw [e1, e2] at r n
  have r' := (cf_nlt y x).1 r
  unfold ltP at r'
  by_cases c : x.1 < y.1
  · exact .inl c
  · refine .inr ⟨by omega, ?_⟩
    by_cases d : x.2 < y.2
    · exact d
    · exact absurd (Prod.ext (by omega) (by omega)) n

end Go.Proofs.Ytfpmakmemmnbkaa
