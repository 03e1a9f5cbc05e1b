/- VmidOnce. -/
import Derived.Test.YtclheedcdogkbaaI8
import Derived.Test.YtclheedcdogkbaaMK
namespace Go.Proofs.Ytclheedcdogkbaa
open Go.RowKit
set_option maxRecDepth 10000

theorem hsN_like {f f' : Nat → Nat} {y : Int} : ∀ {m j : Nat}, (∀ i, j ≤ i → i < j + m → (((f i : Nat) : Int) = y ↔ ((f' i : Nat) : Int) = y)) → hsN f y m j = hsN f' y m j
  | 0, _, _ => rfl
  | m + 1, j, h => by
    unfold hsN
    rw [hsN_like (m := m) (j := j + 1) (fun i h1 h2 => h i (by omega) (by omega))]
    have := h j (Nat.le_refl _) (by omega)
    by_cases c : ((f j : Nat) : Int) = y
    · rw [if_pos c, if_pos (this.1 c)]
    · rw [if_neg c, if_neg (fun e => c (this.2 e))]
/-- No ID has two guests. -/
def uniqS (s : IV) : Prop := ∀ i j, 1 ≤ i → i ≤ s.g → 1 ≤ j → j ≤ s.g → s.f i = s.f j → s.f i ≠ 0 → i = j
theorem uniq_new : uniqS newS := fun i j h1 h2 => by have : i ≤ 0 := h2; omega
theorem uniq_roll (s : IV) : uniqS (rolS s) := fun i j h1 h2 => by have : i ≤ 0 := h2; omega
theorem hs_miss {s : IV} {x : Int} (hx : isG x = true) (h : hs s x = 0) : ∀ i, 1 ≤ i → i ≤ s.g → ((s.f i : Nat) : Int) ≠ x := by
  unfold hs at h
  rw [if_pos hx] at h
  exact fun i h1 h2 => hsN_none (Nat.le_refl 1) h i h1 (by omega)
theorem hs_hit {s : IV} {x : Int} (h : hs s x ≠ 0) : 1 ≤ hs s x ∧ hs s x ≤ s.g ∧ ((s.f (hs s x) : Nat) : Int) = x := by
  unfold hs at h ⊢
  split at h
  · rename_i c
    rw [if_pos c]
    rcases hsN_le s.f x s.g 1 with e | ⟨e1, e2, e3⟩
    · exact absurd e h
    · exact ⟨e1, by omega, e3⟩
  · exact absurd rfl h
theorem uniq_give {s : IV} {x : Int} (hx : isG x = true) (h0 : hs s x = 0) (h : uniqS s) : uniqS (givS s x) := fun i j h1 h2 h3 h4 he hn => by
  have hm := hs_miss hx h0
  have hg := isG_iff.1 hx
  have h2 : i ≤ s.g + 1 := h2
  have h4 : j ≤ s.g + 1 := h4
  replace he : updI s.f (s.g + 1) x.toNat i = updI s.f (s.g + 1) x.toNat j := he
  replace hn : updI s.f (s.g + 1) x.toNat i ≠ 0 := hn
  unfold updI at he hn
  by_cases c : i = s.g + 1
  · by_cases d : j = s.g + 1
    · omega
    · rw [if_pos c, if_neg d] at he
      exact absurd (by omega) (hm j h3 (by omega))
  · rw [if_neg c] at he hn
    by_cases d : j = s.g + 1
    · rw [if_pos d] at he
      exact absurd (by omega) (hm i h1 (by omega))
    · rw [if_neg d] at he
      exact h i j h1 (by omega) h3 (by omega) he hn
theorem uniq_drop {s : IV} (x : Int) (h : uniqS s) : uniqS (drpS s x) := by
  unfold drpS
  split
  · exact h
  · intro i j h1 h2 h3 h4 he hn
    replace he : updI s.f (hs s x) 0 i = updI s.f (hs s x) 0 j := he
    replace hn : updI s.f (hs s x) 0 i ≠ 0 := hn
    unfold updI at he hn
    by_cases c : i = hs s x
    · rw [if_pos c] at hn; exact absurd rfl hn
    · rw [if_neg c] at he hn
      by_cases d : j = hs s x
      · rw [if_pos d] at he; exact absurd he hn
      · rw [if_neg d] at he
        exact h i j h1 h2 h3 h4 he hn
theorem hs_give2 {s : IV} {x y : Int} (hx : isG x = true) (h0 : hs s x = 0) : hs (givS s x) y = if y = x then s.g + 1 else hs s y := by
  by_cases c : y = x
  · rw [if_pos c, c]; exact hs_give hx h0
  · rw [if_neg c]
    have hg := isG_iff.1 hx
    unfold hs
    by_cases d : isG y = true
    · rw [if_pos d, if_pos d]
      show hsN (updI s.f (s.g + 1) x.toNat) y (s.g + 1) 1 = _
      rw [hsN_add _ y s.g 1 1 (fun i h1 h2 => by unfold updI; rw [if_pos (by omega)]; omega)]
      refine hsN_like fun i h1 h2 => ?_
      unfold updI
      rw [if_neg (by omega)]
    · rw [if_neg d, if_neg d]
theorem hs_drop2 {s : IV} {x y : Int} (h : uniqS s) : hs (drpS s x) y = if y = x then 0 else hs s y := by
  unfold drpS
  by_cases c0 : hs s x = 0
  · rw [if_pos c0]
    by_cases c : y = x
    · rw [if_pos c, c]; exact c0
    · rw [if_neg c]
  · rw [if_neg c0]
    obtain ⟨k1, k2, k3⟩ := hs_hit c0
    by_cases d : isG y = true
    · have hy := isG_iff.1 d
      have e : hs ⟨s.t, s.g, updI s.f (hs s x) 0⟩ y = hsN (updI s.f (hs s x) 0) y s.g 1 := by
        show (if isG y = true then _ else _) = _
        rw [if_pos d]
      rw [e]
      by_cases c : y = x
      · rw [if_pos c]
        refine hsN_zero fun i h1 h2 => ?_
        unfold updI
        by_cases ei : i = hs s x
        · rw [if_pos ei]; omega
        · rw [if_neg ei]
          intro hc
          exact ei (h i (hs s x) h1 (by omega) k1 k2 (by omega) (by omega))
      · rw [if_neg c]
        have e2 : hs s y = hsN s.f y s.g 1 := by
          show (if isG y = true then _ else _) = _
          rw [if_pos d]
        rw [e2]
        refine hsN_like fun i h1 h2 => ?_
        unfold updI
        by_cases ei : i = hs s x
        · rw [if_pos ei, ei]; omega
        · rw [if_neg ei]
    · have e : ∀ t : IV, hs t y = 0 := fun t => by
        show (if isG y = true then _ else _) = _
        rw [if_neg d]
      rw [e, e]
      split <;> rfl

/-- The law's own rows beside the IDs. -/
structure VO (W w : World) (p hb gb n : Nat) (s : IV) : Prop where
  k : Kp W w
  v : VI w p n s
  ok : okV n s
  un : uniqS s
  h : WI w hb 41 (fun i => hs s (i : Int))
  g : ON w gb n (fun i => decide (i < s.g))
  p0 : W.heap.size ≤ p
  h0 : W.heap.size ≤ hb
  g0 : W.heap.size ≤ gb
  ph : p ≠ hb
  pg : p ≠ gb
  hg : hb ≠ gb
section
variable {W w w' : World} {p hb gb n : Nat} {s : IV}
theorem VO.kp (h : VO W w p hb gb n s) (k : Kp w w') : VO W w' p hb gb n s := ⟨h.k.trans k, h.v.kp k, h.ok, h.un, h.h.kp k, h.g.kp k, h.p0, h.h0, h.g0, h.ph, h.pg, h.hg⟩
/-- Behind Drop, and the row's cell. -/
theorem VO.drop (h : VO W w p hb gb n s) {x : Nat} (v : VI w' p n (drpS s (x : Int))) (f : Fr (· = p) w w') :
    VO W (w'.setCell ⟨hb, x, none⟩ (.int .i64 0)) p hb gb n (drpS s (x : Int)) := by
  have f2 : Fr (· = hb) w' (w'.setCell ⟨hb, x, none⟩ (.int .i64 0)) := (Fr.refl _ w').set _ _ rfl
  have eg : (drpS s (x : Int)).g = s.g := by unfold drpS; split <;> rfl
  refine ⟨f2.kp (f.kp h.k (fun i hi => by have e : i = p := hi; have := h.p0; omega)) (fun i hi => by have e : i = hb := hi; have := h.h0; omega), v.fr f2 h.ph, h.ok.drop _, uniq_drop _ h.un, ((h.h.fr f (fun e => h.ph e.symm)).set x 0).like fun i hi => ?_, ?_, h.p0, h.h0, h.g0, h.ph, h.pg, h.hg⟩
  · rw [hs_drop2 h.un]
    unfold updI
    by_cases e : i = x
    · rw [if_pos (by omega), if_pos e]
    · rw [if_neg (by omega), if_neg e]
  · rw [eg]
    exact (h.g.fr f (fun e => h.pg e.symm)).fr f2 (fun e => h.hg e.symm)
/-- Behind a Get that gives the next one, and both rows' cells. -/
theorem VO.give (h : VO W w p hb gb n s) {x : Nat} (hx : isG (x : Int) = true) (h0 : hs s (x : Int) = 0) (hg : s.g ≠ n) (v : VI w' p n (givS s (x : Int))) (f : Fr (· = p) w w') :
    VO W ((w'.setCell ⟨gb, s.g, none⟩ (.bool true)).setCell ⟨hb, x, none⟩ (.int .i64 ((s.g + 1 : Nat) : Int))) p hb gb n (givS s (x : Int)) := by
  have f1 : Fr (· = gb) w' (w'.setCell ⟨gb, s.g, none⟩ (.bool true)) := (Fr.refl _ w').set _ _ rfl
  have f2 : Fr (· = hb) (w'.setCell ⟨gb, s.g, none⟩ (.bool true)) ((w'.setCell ⟨gb, s.g, none⟩ (.bool true)).setCell ⟨hb, x, none⟩ (.int .i64 ((s.g + 1 : Nat) : Int))) := (Fr.refl _ _).set _ _ rfl
  have k1 := f.kp h.k (fun i hi => by have e : i = p := hi; have := h.p0; omega)
  have k2 := f1.kp k1 (fun i hi => by have e : i = gb := hi; have := h.g0; omega)
  have k3 := f2.kp k2 (fun i hi => by have e : i = hb := hi; have := h.h0; omega)
  refine ⟨k3, (v.fr f1 h.pg).fr f2 h.ph, h.ok.give hx hg, uniq_give hx h0 h.un, ((((h.h.fr f (fun e => h.ph e.symm)).fr f1 h.hg).set x (s.g + 1))).like fun i hi => ?_, (((h.g.fr f (fun e => h.pg e.symm)).set s.g true).fr f2 (fun e => h.hg e.symm)).like fun i hi => ?_, h.p0, h.h0, h.g0, h.ph, h.pg, h.hg⟩
  · rw [hs_give2 hx h0]
    unfold updI
    by_cases e : i = x
    · rw [if_pos (by omega), if_pos e]
    · rw [if_neg (by omega), if_neg e]
  · show decide (i < s.g + 1) = _
    by_cases e : i = s.g
    · rw [if_pos e]; exact decide_eq_true (by omega)
    · rw [if_neg e]
      by_cases c : i < s.g
      · rw [decide_eq_true c, decide_eq_true (by omega)]
      · rw [decide_eq_false c, decide_eq_false (by omega)]
end

end Go.Proofs.Ytclheedcdogkbaa
