/- The document's rmap: Drop; parts of lists, in whatever world. -/
import Derived.Test.YtfpmakmemmnbkaaAE
namespace Go.Proofs.Ytfpmakmemmnbkaa
open Go.RowKit
set_option maxRecDepth 10000

section
variable {α : Type} {T : LT α} {w : World} {L : List α}
/-- l[:k], l[k:], in whatever world. -/
theorem part_hi (K : LTok T) (na : Option Addr) (n cap k : Nat) (hk : k ≤ cap) : ∃ na', (∀ w, (Instr.slice T.t (.slice na n cap) none (some (.int .i64 (k : Int))) none).run Try.prog w = .ok (.slice na' k cap) w) ∧ (na = none → na' = none) ∧ ∀ g o, na = some ⟨g, o, none⟩ → na' = some ⟨g, o, none⟩ := by
  refine ⟨(if cap = 0 then na else na.map (·.add (0 * T.sz))), fun w => ?_, fun e => ?_, fun g o e => ?_⟩
  · rw [run_slice_h w T.t na n cap (by rw [elem_of K]; exact K.ht) .i64 (k : Int) (by omega) (by omega), elem_of K, K.hs w, Result.andThen_ok, Int.toNat_natCast]
    rfl
  · subst e; split <;> rfl
  · subst e
    split
    · rfl
    · show some ((Addr.mk g o none).add (0 * T.sz)) = _
      rw [add_at]; simp
theorem part_lo (K : LTok T) (na : Option Addr) (n cap k : Nat) (hk : k ≤ n) : ∃ na', (∀ w, (Instr.slice T.t (.slice na n cap) (some (.int .i64 (k : Int))) none none).run Try.prog w = .ok (.slice na' (n - k) (cap - k)) w) ∧ (na = none → na' = none) ∧ ∀ g o, na = some ⟨g, o, none⟩ → (cap = k ∧ na' = some ⟨g, o, none⟩) ∨ (cap ≠ k ∧ na' = some ⟨g, o + k * T.sz, none⟩) := by
  refine ⟨(if cap = k then na else na.map (·.add (k * T.sz))), fun w => ?_, fun e => ?_, fun g o e => ?_⟩
  · rw [run_slice_l w T.t na n cap (by rw [elem_of K]; exact K.ht) .i64 (k : Int) (by omega) (by omega), elem_of K, K.hs w, Result.andThen_ok, Int.toNat_natCast]
    rfl
  · subst e; split <;> rfl
  · subst e
    by_cases c : cap = k
    · rw [if_pos c]; exact .inl ⟨c, rfl⟩
    · rw [if_neg c]
      refine .inr ⟨c, ?_⟩
      show some ((Addr.mk g o none).add (k * T.sz)) = _
      rw [add_at]
/-- What lies ahead of a place, what from it on. -/
theorem AS.hi (K : LTok T) {na na' : Option Addr} (h : AS T w na L) (k : Nat) (e2 : na = none → na' = none) (e3 : ∀ g o, na = some ⟨g, o, none⟩ → na' = some ⟨g, o, none⟩) : AS T w na' (L.take k) := by
  rcases h with ⟨h1, h2⟩ | ⟨b, o, h1, hb, h2⟩
  · exact .inl ⟨e2 h1, by rw [h2]; simp⟩
  · refine .inr ⟨b, o, e3 b o h1, hb, fun j u hu => h2 j u ?_⟩
    rw [← flat_take K.E, List.getElem?_take] at hu
    split at hu
    · exact hu
    · cases hu
theorem AS.lo (K : LTok T) {na na' : Option Addr} (h : AS T w na L) {cap : Nat} (k : Nat) (hl : L.length ≤ cap) (e2 : na = none → na' = none) (e3 : ∀ g o, na = some ⟨g, o, none⟩ → (cap = k ∧ na' = some ⟨g, o, none⟩) ∨ (cap ≠ k ∧ na' = some ⟨g, o + k * T.sz, none⟩)) : AS T w na' (L.drop k) := by
  rcases h with ⟨h1, h2⟩ | ⟨b, o, h1, hb, h2⟩
  · exact .inl ⟨e2 h1, by rw [h2]; simp⟩
  · rcases e3 b o h1 with ⟨q, e⟩ | ⟨_, e⟩
    · refine .inr ⟨b, o, e, hb, fun j u hu => ?_⟩
      rw [List.drop_of_length_le (by omega)] at hu
      simp at hu
    · refine .inr ⟨b, o + k * T.sz, e, hb, fun j u hu => ?_⟩
      rw [← flat_drop K.E, List.getElem?_drop] at hu
      rw [Nat.add_assoc]
      exact h2 _ u hu
theorem part_nil {na na' : Option Addr} (e3 : ∀ g o, na = some ⟨g, o, none⟩ → na' = some ⟨g, o, none⟩) (h : AS T w na L) (e : na' = none) : na = none := by
  rcases h with ⟨h1, _⟩ | ⟨b, o, h1, _⟩
  · exact h1
  · rw [e3 b o h1] at e; cases e
theorem part_nil2 {na na' : Option Addr} {cap k : Nat} (e3 : ∀ g o, na = some ⟨g, o, none⟩ → (cap = k ∧ na' = some ⟨g, o, none⟩) ∨ (cap ≠ k ∧ na' = some ⟨g, o + k * T.sz, none⟩)) (h : AS T w na L) (e : na' = none) : na = none := by
  rcases h with ⟨h1, _⟩ | ⟨b, o, h1, _⟩
  · exact h1
  · rcases e3 b o h1 with ⟨_, q⟩ | ⟨_, q⟩ <;> rw [q] at e <;> cases e
end
theorem erase_parts : ∀ {T : List UC} {u : UC}, u ∈ T → T.take (T.idxOf u) ++ T.drop (T.idxOf u + 1) = T.erase u
  | t :: r, u, h => by
    by_cases c : t = u
    · subst c; simp
    · have hm : u ∈ r := by
        rcases List.mem_cons.1 h with e | e
        · exact absurd e.symm c
        · exact e
      have cb : (t == u) = false := by simpa using c
      rw [List.idxOf_cons, cb, List.erase_cons_tail (by simpa using c)]
      have ih := erase_parts hm
      show (t :: r).take (r.idxOf u + 1) ++ (t :: r).drop (r.idxOf u + 1 + 1) = _
      rw [List.take_succ_cons, List.drop_succ_cons, List.cons_append, ih]

section
variable {w w' : World} {q b : Nat} {v : Value} {T : List UC}
set_option maxHeartbeats 8000000 in
theorem udrop_any (h : RDU w q b v T) (hb : b ≤ w.heap.size) (hl : T.length ≤ 100000) (f : Int) (x : PLc) :
    Calls Try.prog 10 #[.pointer (some ⟨q, 0, none⟩), .int .i64 f, plV x] w fun e w' => e = .returned (.int .i64 (drpN T (f, x))) ∧ UO w w' q b v (T.erase (f, x)) := by
  unfold drpN
  have ka : ∀ v', Kp w v' → Calls Try.prog 20 #[.pointer (some ⟨q, 0, none⟩), .int .i64 f, plV x] v' fun e w' => e = .returned (.int .i64 (atU T (f, x))) ∧ Kp v' w' := fun v' k => uat_any (h.kp k) (by omega) f x
  by_cases c2 : (f, x) ∈ T
  · rw [if_pos c2]
    have e1 : atU T (f, x) = ((T.idxOf (f, x) : Nat) : Int) := if_pos c2
    rw [e1] at ka
    have HH : Hid (RDU w q b v T ∧ b ≤ w.heap.size ∧ T.length ≤ 100000) := ⟨h, hb, hl⟩
    have ep := erase_parts c2
    have hk : T.idxOf (f, x) < T.length := List.idxOf_lt_length_iff.2 c2
    generalize T.idxOf (f, x) = k at *
    have HP : Hid (T.take k ++ T.drop (k + 1) = T.erase (f, x)) := ep
    obtain ⟨xg, xp⟩ := x
    unfold plV at ka ⊢
    dsimp only at ka ⊢
    obtain ⟨na, cap, ev, hcap, hform, _⟩ := h.ax.form okT_use
    subst ev
    have hz : na = none → cap = 0 := fun e => by
      rcases hform with ⟨_, q, _⟩ | ⟨g, q, _⟩
      · exact q
      · rw [e] at q; cases q
    have src := h.ax.src okT_use
    obtain ⟨na1, p1, p2, p3⟩ := part_hi okT_use na T.length cap k (by omega)
    obtain ⟨na2, s1, s2, s3⟩ := part_lo okT_use na T.length cap (k + 1) (by omega)
    change ∀ w, (Instr.slice 26 _ _ _ _).run Try.prog w = _ at p1
    change ∀ w, (Instr.slice 26 _ _ _ _).run Try.prog w = _ at s1
    have a1 := src.hi okT_use k p2 p3
    have a2 := src.lo okT_use (k + 1) hcap s2 s3
    have z1 : T.take k = [] → na1 = none → cap = 0 := fun _ e => hz (part_nil p3 src e)
    have z2 : T.drop (k + 1) = [] → na2 = none → cap - (k + 1) = 0 := fun _ e => by rw [hz (part_nil2 s3 src e)]; omega
    have y0 : ¬ (k : Int) < 0 := by omega
    have y18 : IntKind.i64.wrap ((k : Int) + 1) = ((k + 1 : Nat) : Int) := by rw [IntKind.wrap_i64]; omega
    have l1 : k = (T.take k).length := by rw [List.length_take]; omega
    have l2 : T.length - (k + 1) = (T.drop (k + 1)).length := by rw [List.length_drop]
    generalize hkk : k + 1 = kk at *
    generalize hm : T.length - kk = m at *
    generalize hc2 : cap - kk = c2 at *
    clear h hb hl e1 ep hform hz src p2 p3 s2 s3 hm hc2 hkk
    go_enter Try.func10, Try.ntmps10
    go_wp2_with fail
    with_reducible refine (ka _ ((Kp.refl w).alloc _)).mono ?_
    rintro e w1 ⟨rfl, k1⟩
    have kw : Kp w w1 := ((Kp.refl w).alloc _).trans k1
    have R1 := HH.out.1.kp kw
    have d0 := R1.c0
    obtain ⟨we, hwe⟩ : ∃ we, we = (w1.alloc (.cells #[] 56)).drew := ⟨_, rfl⟩
    have ke : Kp w1 we := by rw [hwe]; exact ((Kp.refl w1).alloc _).drew
    have de := (R1.kp ((Kp.refl w1).alloc (.cells #[] 56))).c0
    have ax0 : AX LTu we w1.heap.size (.slice (some ⟨w1.heap.size, 0, none⟩) 0 0) [] := by rw [hwe]; exact (AX.empty (T := LTu) w1).kp (Kp.refl _).drew
    obtain ⟨na3, n3, cap3, w3, r3, hn3, o3, f3, k3, j3⟩ := ax0.app okT_use (by rw [hwe]; simp) (a1.kp (kw.trans ke)) l1 z1 (by have := HH.out.2.2; simp only [List.length_take, List.length_nil]; omega) 26
    have K3 : Kp w1 w3 := k3 w1 (Nat.le_refl _) ke
    rw [List.nil_append] at o3
    obtain ⟨na4, n4, cap4, w4, r4, hn4, o4, f4, k4, j4⟩ := o3.app okT_use K3.size (a2.kp (kw.trans K3)) l2 z2 (by have := HH.out.2.2; simp only [List.length_take, List.length_drop]; omega) 26
    have K4 : Kp w1 w4 := k4 w1 (Nat.le_refl _) K3
    have r3' : (Builtin.append_ #[26, 26] 26 #[.slice (some ⟨w1.heap.size, 0, none⟩) 0 0, .slice na1 k cap]).run Try.prog (w1.alloc (.cells #[] 56)).drew = .ok (.slice na3 n3 cap3) w3 := by rw [hwe] at r3; exact r3
    have r4' : (Builtin.append_ #[26, 26] 26 #[.slice na3 n3 cap3, .slice na2 m c2]).run Try.prog w3 = .ok (.slice na4 n4 cap4) w4 := r4
    have d3 := (R1.kp K3).c0
    have R4 := R1.kp K4
    have d4 := R4.c0
    have z4 := R4.fz 0
    have hne : ∀ g, (Value.slice na4 n4 cap4).ownBlock = some g → g ≠ q := fun g hg => by
      have := (o4.up g hg).1
      have := R1.lt
      omega
    have F : Hid (UO w (w4.setCell ⟨q, 0, none⟩ (.slice na4 n4 cap4)) q b (.slice na T.length cap) (T.erase (f, (xg, xp)))) := by
      rw [← HP.out]
      exact ⟨_, R4.put (o4.low (Nat.le_trans HH.out.2.1 kw.size)) hne, (((kw.trans K4).fr _)).set ⟨q, 0, none⟩ _ (.inl rfl), (by
        cases e : (Value.slice na4 n4 cap4).ownBlock with
        | none =>
          rcases j4 with q | q
          · rw [q] at e
            rcases j3 with q | q
            · rw [q] at e; cases e
            · rw [q] at e; cases e
          · rw [q] at e; cases e
        | some g => exact .inr ⟨g, rfl, Nat.le_trans kw.size (o4.up g e).1⟩)⟩
    clear HH HP hcap a1 a2 z1 z2 l1 l2 k1 kw R1 hwe ke ax0 r3 hn3 o3 f3 k3 j3 K3 r4 hn4 o4 f4 k4 j4 K4 R4 hne ka hk
    obtain ⟨n, hn⟩ : ∃ n, n = T.length := ⟨_, rfl⟩
    rw [← hn] at d0 de d3 d4 p1 s1
    clear hn
    go_wp2_with fail
    go_region_law (first | (refine step_app_of r3' (by rfl) (.tmp 15) (.tmp 21) (by rfl) (by rfl) (by rfl) (by rfl) ?_) | (refine step_app_of r4' (by rfl) (.tmp 22) (.tmp 29) (by rfl) (by rfl) (by rfl) (by rfl) ?_))
    all_goals
      clear r3' r4' p1 s1
      go_wp2
      go_ret
      exact ⟨rfl, F.out⟩
  · rw [if_neg c2]
    have e1 : atU T (f, x) = -1 := if_neg c2
    rw [e1] at ka
    have HS : Hid (∀ w', Kp w w' → UO w w' q b v (T.erase (f, x))) := fun w' k => by rw [List.erase_of_not_mem c2]; exact UO.same h k
    obtain ⟨xg, xp⟩ := x
    unfold plV at *
    dsimp only at ka HS
    clear h hl c2 e1 hb
    go_enter Try.func10, Try.ntmps10
    go_wp2_with fail
    with_reducible refine (ka _ ((Kp.refl w).alloc _)).mono ?_
    rintro e w1 ⟨rfl, k1⟩
    have HK : Hid (UO w w1 q b v (T.erase (f, (xg, xp)))) := HS.out _ (((Kp.refl w).alloc _).trans k1)
    clear k1 ka HS
    go_wp2_with fail
    go_ret
    exact ⟨rfl, HK.out⟩
end

end Go.Proofs.Ytfpmakmemmnbkaa
