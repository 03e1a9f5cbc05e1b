/- demesnelaw17: told. -/
import Derived.Test.YtfpmakmemmnbkaaA8
import Derived.Test.YtfpmakmemmnbkaaAH
import Derived.Test.YtfpmakmemmnbkaaAJ
import Derived.Deep.RegionHeld3
namespace Go.Proofs.Ytfpmakmemmnbkaa
open Go.RowKit Go.Sort Go.Shelf
set_option maxRecDepth 10000

def toA : UC := (5, (2, 7))
def toB : UC := (5, (1, 9))
/-- The map behind W, beside two boxes of places. -/
structure TDm (W w : World) (p b2 b3 : Nat) (T : List UC) : Prop where
  ex : ∃ U bm g K, RMp w p U bm g K T ∧ (∀ i, U i → W.heap.size ≤ i) ∧ ¬ U b2 ∧ ¬ U b3
  k : Kp W w
  r2 : w.heap[b2]? = some (.cells #[.int .i64 2, .int .u64 7] 31 (0, 0))
  r3 : w.heap[b3]? = some (.cells #[.int .i64 1, .int .u64 9] 31 (0, 0))
section
variable {W w w' : World} {p b2 b3 : Nat} {T : List UC}
theorem TDm.kp (h : TDm W w p b2 b3 T) (k : Kp w w') : TDm W w' p b2 b3 T := by
  obtain ⟨⟨U, bm, g, K, h1, h2⟩, h3, h4, h5⟩ := h
  exact ⟨⟨U, bm, g, K, h1.kp k, h2⟩, h3.trans k, (k.block b2 (Array.getElem?_eq_some_iff.1 h4).1).trans h4, (k.block b3 (Array.getElem?_eq_some_iff.1 h5).1).trans h5⟩
theorem TDm.cells (h : TDm W w p b2 b3 T) : w.cell? ⟨b2, 0, none⟩ = some (.int .i64 2) ∧ w.cell? ⟨b2, 1, none⟩ = some (.int .u64 7) ∧ w.cell? ⟨b3, 0, none⟩ = some (.int .i64 1) ∧ w.cell? ⟨b3, 1, none⟩ = some (.int .u64 9) :=
  ⟨by rw [cell_of_row _ _ 0 _ _ _ h.r2]; rfl, by rw [cell_of_row _ _ 1 _ _ _ h.r2]; rfl, by rw [cell_of_row _ _ 0 _ _ _ h.r3]; rfl, by rw [cell_of_row _ _ 1 _ _ _ h.r3]; rfl⟩
theorem TDm.step {U : Nat → Prop} {T' : List UC} (h4 : w.heap[b2]? = some (.cells #[.int .i64 2, .int .u64 7] 31 (0, 0))) (h5 : w.heap[b3]? = some (.cells #[.int .i64 1, .int .u64 9] 31 (0, 0))) (k : Kp W w) (hU : ∀ i, U i → W.heap.size ≤ i) (n2 : ¬ U b2) (n3 : ¬ U b3) (u : UM w w' p U T') : TDm W w' p b2 b3 T' := by
  obtain ⟨U', bm, g, K, m, f, s⟩ := u
  have l2 := (Array.getElem?_eq_some_iff.1 h4).1
  have l3 := (Array.getElem?_eq_some_iff.1 h5).1
  refine ⟨⟨U', bm, g, K, m, fun i hi => ?_, fun c => ?_, fun c => ?_⟩, f.kp k hU, (f.block b2 l2 n2).trans h4, (f.block b3 l3 n3).trans h5⟩
  · rcases s i hi with c | c
    · exact hU i c
    · exact Nat.le_trans k.size c
  · rcases s _ c with c | c
    · exact n2 c
    · omega
  · rcases s _ c with c | c
    · exact n3 c
    · omega
theorem tdm_add (h : TDm W w p b2 b3 T) (f : Int) (x : PLc) (hx : okU (f, x)) (hl : T.length ≤ 100) {r : Int} {T' : List UC} (e1 : addN T (f, x) = r) (e2 : addT T (f, x) = T') :
    Calls Try.prog 7 #[.pointer (some ⟨p, 0, none⟩), .int .i64 f, plV x] w fun e w' => e = .returned (.int .i64 r) ∧ TDm W w' p b2 b3 T' := by
  obtain ⟨⟨U, bm, g, K, h1, h2, n2, n3⟩, h3, h4, h5⟩ := h
  subst e1; subst e2
  exact (madd_any h1 f x hx (by omega)).mono fun e w' ⟨q1, q2⟩ => ⟨q1, TDm.step h4 h5 h3 h2 n2 n3 q2⟩
theorem tdm_drop (h : TDm W w p b2 b3 T) (f : Int) (x : PLc) (hx : okU (f, x)) (hl : T.length ≤ 100) {r : Int} {T' : List UC} (e1 : drpN T (f, x) = r) (e2 : T.erase (f, x) = T') :
    Calls Try.prog 9 #[.pointer (some ⟨p, 0, none⟩), .int .i64 f, plV x] w fun e w' => e = .returned (.int .i64 r) ∧ TDm W w' p b2 b3 T' := by
  obtain ⟨⟨U, bm, g, K, h1, h2, n2, n3⟩, h3, h4, h5⟩ := h
  subst e1; subst e2
  exact (mdrop_any h1 f x hx (by omega)).mono fun e w' ⟨q1, q2⟩ => ⟨q1, TDm.step h4 h5 h3 h2 n2 n3 q2⟩
theorem tdm_has (h : TDm W w p b2 b3 T) (f : Int) (x : PLc) (hx : okU (f, x)) {z : Bool} (e1 : decide ((f, x) ∈ T) = z) :
    Calls Try.prog 13 #[.pointer (some ⟨p, 0, none⟩), .int .i64 f, plV x] w fun e w' => e = .returned (.bool z) ∧ TDm W w' p b2 b3 T ∧ Kp w w' := by
  obtain ⟨U, bm, g, K, h1, _⟩ := h.ex
  subst e1
  exact (mhas_any h1 f x hx).mono fun e w' ⟨q1, q2⟩ => ⟨q1, h.kp q2, q2⟩
theorem tdm_list (h : TDm W w p b2 b3 T) (f : Int) (hf : (Lit.int .i64 f).wf = true) (hl : T.length ≤ 100) {L : List PLc} (e1 : srtP (usT T f) = L) :
    Calls Try.prog 11 #[.pointer (some ⟨p, 0, none⟩), .int .i64 f] w fun e w' => (∃ v, e = .returned v ∧ SVw LTp w' v L) ∧ TDm W w' p b2 b3 T ∧ Kp w w' := by
  obtain ⟨U, bm, g, K, h1, _⟩ := h.ex
  subst e1
  exact (mlist_any h1 f hf (by omega)).mono fun e w' ⟨v, q1, q2, q3⟩ => ⟨⟨v, q1, q2.sv okT_place⟩, h.kp q3, q3⟩
theorem tdm_frames (h : TDm W w p b2 b3 T) (hl : T.length ≤ 100) {L : List Int} (e1 : frT T = L) :
    Calls Try.prog 12 #[.pointer (some ⟨p, 0, none⟩)] w fun e w' => (∃ v, e = .returned v ∧ SVw LTi w' v L) ∧ TDm W w' p b2 b3 T ∧ Kp w w' := by
  obtain ⟨U, bm, g, K, h1, _⟩ := h.ex
  subst e1
  exact (mframes_any h1 (by omega)).mono fun e w' ⟨v, q1, q2, q3⟩ => ⟨⟨v, q1, q2.sv okT_num⟩, h.kp q3, q3⟩
end
theorem to_ok : okU toA ∧ okU toB ∧ okU (-1, (2, 7)) := by unfold okU okP toA toB; decide
theorem to_list : srtP (usT [toA, toB] 5) = [(1, 9), (2, 7)] := by
  refine (srtP_of ?_ ?_).symm
  · show ([(1, 9), (2, 7)] : List PLc).Perm [(2, 7), (1, 9)]
    exact List.Perm.swap _ _ _
  · decide
theorem to_frames : frT [toA, toB] = [5] := (frT_of (T := [toA, toB]) (M := [5]) (by simp) (fun x => by simp [toA, toB])).symm
theorem SVw.two (w : World) : SVw LTp (w.alloc (.cells #[.int .i64 1, .int .u64 9, .int .i64 2, .int .u64 7] 31)) (.slice (some ⟨w.heap.size, 0, none⟩) 2 2) [(1, 9), (2, 7)] := ⟨_, 2, rfl, AS.made (T := LTp) w [(1, 9), (2, 7)]⟩
theorem SVw.five (w : World) : SVw LTi (w.alloc (.cells #[.int .i64 5] 3)) (.slice (some ⟨w.heap.size, 0, none⟩) 1 1) [5] := ⟨_, 1, rfl, AS.made (T := LTi) w [5]⟩
set_option maxHeartbeats 8000000 in
theorem mtold_any (w : World) : Calls Try.prog 19 #[] w fun e w' => e = .returned (.bool true) ∧ Kp w w' := by
  have cN := rnew_any w
  have A1 : Aside (∀ w0 p b2 b3, TDm w w0 p b2 b3 [] → Calls Try.prog 7 #[.pointer (some ⟨p, 0, none⟩), .int .i64 5, .agg #[.int .i64 2, .int .u64 7]] w0 fun e w' => e = .returned (.int .i64 0) ∧ TDm w w' p b2 b3 [toA]) := fun w0 p b2 b3 h => tdm_add h 5 (2, 7) to_ok.1 (by decide) (by decide) (by decide)
  have A2 : Aside (∀ w0 p b2 b3, TDm w w0 p b2 b3 [toA] → Calls Try.prog 7 #[.pointer (some ⟨p, 0, none⟩), .int .i64 5, .agg #[.int .i64 1, .int .u64 9]] w0 fun e w' => e = .returned (.int .i64 0) ∧ TDm w w' p b2 b3 [toA, toB]) := fun w0 p b2 b3 h => tdm_add h 5 (1, 9) to_ok.2.1 (by decide) (by decide) (by decide)
  have A3 : Aside (∀ w0 p b2 b3, TDm w w0 p b2 b3 [toA, toB] → Calls Try.prog 7 #[.pointer (some ⟨p, 0, none⟩), .int .i64 5, .agg #[.int .i64 2, .int .u64 7]] w0 fun e w' => e = .returned (.int .i64 22) ∧ TDm w w' p b2 b3 [toA, toB]) := fun w0 p b2 b3 h => tdm_add h 5 (2, 7) to_ok.1 (by decide) (by decide) (by decide)
  have A4 : Aside (∀ w0 p b2 b3, TDm w w0 p b2 b3 [toA, toB] → Calls Try.prog 7 #[.pointer (some ⟨p, 0, none⟩), .int .i64 (-1), .agg #[.int .i64 2, .int .u64 7]] w0 fun e w' => e = .returned (.int .i64 1) ∧ TDm w w' p b2 b3 [toA, toB]) := fun w0 p b2 b3 h => tdm_add h (-1) (2, 7) to_ok.2.2 (by decide) (by decide) (by decide)
  have L1 : Aside (∀ w0 p b2 b3, TDm w w0 p b2 b3 [toA, toB] → Calls Try.prog 11 #[.pointer (some ⟨p, 0, none⟩), .int .i64 5] w0 fun e w' => (∃ v, e = .returned v ∧ SVw LTp w' v [(1, 9), (2, 7)]) ∧ TDm w w' p b2 b3 [toA, toB] ∧ Kp w0 w') := fun w0 p b2 b3 h => tdm_list h 5 (by decide) (by decide) to_list
  have H1 : Aside (∀ w0 p b2 b3, TDm w w0 p b2 b3 [toA, toB] → Calls Try.prog 13 #[.pointer (some ⟨p, 0, none⟩), .int .i64 5, .agg #[.int .i64 2, .int .u64 7]] w0 fun e w' => e = .returned (.bool true) ∧ TDm w w' p b2 b3 [toA, toB] ∧ Kp w0 w') := fun w0 p b2 b3 h => tdm_has h 5 (2, 7) to_ok.1 (by decide)
  have F1 : Aside (∀ w0 p b2 b3, TDm w w0 p b2 b3 [toA, toB] → Calls Try.prog 12 #[.pointer (some ⟨p, 0, none⟩)] w0 fun e w' => (∃ v, e = .returned v ∧ SVw LTi w' v [5]) ∧ TDm w w' p b2 b3 [toA, toB] ∧ Kp w0 w') := fun w0 p b2 b3 h => tdm_frames h (by decide) to_frames
  have D1 : Aside (∀ w0 p b2 b3, TDm w w0 p b2 b3 [toA, toB] → Calls Try.prog 9 #[.pointer (some ⟨p, 0, none⟩), .int .i64 5, .agg #[.int .i64 2, .int .u64 7]] w0 fun e w' => e = .returned (.int .i64 0) ∧ TDm w w' p b2 b3 [toB]) := fun w0 p b2 b3 h => tdm_drop h 5 (2, 7) to_ok.1 (by decide) (by decide) (by decide)
  have D2 : Aside (∀ w0 p b2 b3, TDm w w0 p b2 b3 [toB] → Calls Try.prog 9 #[.pointer (some ⟨p, 0, none⟩), .int .i64 5, .agg #[.int .i64 2, .int .u64 7]] w0 fun e w' => e = .returned (.int .i64 23) ∧ TDm w w' p b2 b3 [toB]) := fun w0 p b2 b3 h => tdm_drop h 5 (2, 7) to_ok.1 (by decide) (by decide) (by decide)
  have SP : Aside (∀ w0 va vb, SVw LTp w0 va [(1, 9), (2, 7)] → SVw LTp w0 vb [(1, 9), (2, 7)] → Calls Try.prog 15 #[va, vb] w0 fun e w' => e = .returned (.bool true) ∧ Kp w0 w') := fun w0 va vb h1 h2 => by
    have := sameX_any h1 h2 (by decide)
    rwa [decide_eq_true rfl] at this
  have SI : Aside (∀ w0 va vb, SVw LTi w0 va [5] → SVw LTi w0 vb [5] → Calls Try.prog 17 #[va, vb] w0 fun e w' => e = .returned (.bool true) ∧ Kp w0 w') := fun w0 va vb h1 h2 => by
    have := intsX_any h1 h2 (by decide)
    rwa [decide_eq_true rfl] at this
  go_enter Try.func19, Try.ntmps19
  go_wp2_with fail
  with_reducible refine cN.mono ?_
  rintro e w1 ⟨p, U, bm, g, K, rfl, m1, k1, u1⟩
  have HM : Hid (RMp w1 p U bm g K [] ∧ Kp w w1 ∧ ∀ i, U i → w.heap.size ≤ i) := ⟨m1, k1, u1⟩
  clear cN m1 k1 u1
  go_wp2_with fail
  obtain ⟨w2, hw2⟩ : ∃ w2, w2 = (w1.alloc (.cells #[.int .i64 2, .int .u64 7] 31)).alloc (.cells #[.int .i64 1, .int .u64 9] 31) := ⟨_, rfl⟩
  obtain ⟨b2, hb2⟩ : ∃ b2, b2 = w1.heap.size := ⟨_, rfl⟩
  obtain ⟨b3, hb3⟩ : ∃ b3, b3 = w1.heap.size + 1 := ⟨_, rfl⟩
  rw [← hw2, ← hb3, ← hb2]
  have S0 : TDm w w2.drew p b2 b3 [] := by
    have k2 : Kp w1 w2 := by rw [hw2]; exact ((Kp.refl w1).alloc _).alloc _
    refine TDm.kp ⟨⟨U, bm, g, K, HM.out.1.kp k2, HM.out.2.2, fun c => by have := HM.out.1.lim _ c; omega, fun c => by have := HM.out.1.lim _ c; omega⟩, HM.out.2.1.trans k2, ?_, ?_⟩ (Kp.refl w2).drew
    · rw [hw2, hb2]; exact (Below.heap_alloc _ _ _ (by simp)).trans (heap_alloc_new w1 _)
    · rw [hw2, hb3]; have := heap_alloc_new (w1.alloc (.cells #[.int .i64 2, .int .u64 7] 31)) (.cells #[.int .i64 1, .int .u64 9] 31); rwa [World.size_alloc] at this
  clear hw2 hb2 hb3 HM
  go_region_held3 (fun v => v.cell? ⟨b2, 0, none⟩ = some (.int .i64 2) ∧ v.cell? ⟨b2, 1, none⟩ = some (.int .u64 7) ∧ v.cell? ⟨b3, 0, none⟩ = some (.int .i64 1) ∧ v.cell? ⟨b3, 1, none⟩ = some (.int .u64 9))
    (first | exact S0.cells | exact SB.cells | exact SA.cells | exact S9.cells | exact (S8.kp ((Kp.refl _).alloc _)).cells | exact S8.cells | exact S7.cells | exact S7'.cells | exact S6.cells | exact S5.cells | exact (S5.kp ((Kp.refl _).alloc _)).cells | exact S4'.cells | exact S4.cells | exact (S4.kp ((Kp.refl _).alloc _)).cells | exact S3.cells | exact S2.cells | exact S1.cells | exact (S6.kp ((Kp.refl _).alloc _)).cells | exact (S7.kp ((Kp.refl _).alloc _)).cells)
    (first
      | (go_at_call 7; first | (with_reducible refine (A1.out _ _ _ _ S0).mono ?_; rintro e w3 ⟨rfl, S1⟩) | (with_reducible refine (A2.out _ _ _ _ S1).mono ?_; rintro e w4 ⟨rfl, S2⟩) | (with_reducible refine (A3.out _ _ _ _ S2).mono ?_; rintro e w5 ⟨rfl, S3⟩) | (with_reducible refine (A4.out _ _ _ _ S3).mono ?_; rintro e w6 ⟨rfl, S4⟩))
      | (go_at_call 11; first | (with_reducible refine (L1.out _ _ _ _ S4).mono ?_; rintro e w7 ⟨⟨vl, rfl, sl⟩, S5, kl⟩) | (with_reducible refine (L1.out _ _ _ _ (S4.kp ((Kp.refl _).alloc (.cells #[.int .i64 1, .int .u64 9, .int .i64 2, .int .u64 7] 31)))).mono ?_; rintro e w7 ⟨⟨vl, rfl, sl⟩, S5, kl⟩))
      | (go_at_call 15; first | (with_reducible refine (SP.out _ _ _ (sl.kp ((Kp.refl _).alloc _)) (SVw.two _)).mono ?_; rintro e w8 ⟨rfl, k8⟩; have S6 := (S5.kp ((Kp.refl _).alloc _)).kp k8) | (with_reducible refine (SP.out _ _ _ sl ((SVw.two _).kp kl)).mono ?_; rintro e w8 ⟨rfl, k8⟩; have S6 := S5.kp k8))
      | (go_at_call 13; with_reducible refine (H1.out _ _ _ _ S6).mono ?_; rintro e w9 ⟨rfl, S7, k9⟩)
      | (go_at_call 12; first | (with_reducible refine (F1.out _ _ _ _ S7).mono ?_; rintro e wa ⟨⟨vf, rfl, sf⟩, S8, kf⟩) | (with_reducible refine (F1.out _ _ _ _ (S7.kp ((Kp.refl _).alloc (.cells #[.int .i64 5] 3)))).mono ?_; rintro e wa ⟨⟨vf, rfl, sf⟩, S8, kf⟩))
      | (go_at_call 17; first | (with_reducible refine (SI.out _ _ _ (sf.kp ((Kp.refl _).alloc _)) (SVw.five _)).mono ?_; rintro e wb ⟨rfl, kb⟩; have S9 := (S8.kp ((Kp.refl _).alloc _)).kp kb) | (with_reducible refine (SI.out _ _ _ sf ((SVw.five _).kp kf)).mono ?_; rintro e wb ⟨rfl, kb⟩; have S9 := S8.kp kb))
      | (go_at_call 9; first | (with_reducible refine (D1.out _ _ _ _ S9).mono ?_; rintro e wc ⟨rfl, SA⟩) | (with_reducible refine (D2.out _ _ _ _ SA).mono ?_; rintro e wd ⟨rfl, SB⟩)))
  all_goals
    have KE : Hid (Kp w wd) := SB.k
    clear S0 S1 S2 S3 S4 sl S5 kl S6 S7 k9 sf S8 kf kb S9 SA SB A1 A2 A3 A4 L1 H1 F1 D1 D2 SP SI
    go_wp2_with fail
    go_ret
    exact ⟨rfl, KE.out⟩

end Go.Proofs.Ytfpmakmemmnbkaa
