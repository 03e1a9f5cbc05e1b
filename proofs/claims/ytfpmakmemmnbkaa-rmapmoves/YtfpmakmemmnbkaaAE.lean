/- The document's rmap: Add, Drop. -/
import Derived.Test.YtfpmakmemmnbkaaAD
import Derived.Deep.RegionLaw
namespace Go.Proofs.Ytfpmakmemmnbkaa
open Go.RowKit
set_option maxRecDepth 10000

theorem step_app_of {P : Program} {w : World} {ops : Array Oper} {o : Oper} {a : Act} {K : Act → World → Prop} {Q : Exit → Act → World → Prop} {E : Prop} {t ty : TypeId} {vs vx v' : Value} {w' : World}
    (hr : (Builtin.append_ #[t, t] ty #[vs, vx]).run P w = .ok v' w') (hgd : o.guard = none) (s x : Operand) (ho : o.op = .call { callee := .builtin .append, args := #[s, x], argTypes := #[t, t] }) (hty : o.type = ty) (hs : a.eval s = vs) (hx : a.eval x = vx)
    (h : K (a.put o.dst v') w') : if Region.wanted o (yielded ops a.tmps) = true then Oper.wp P o a w K Q else E := by
  rw [if_pos (by simp [Region.wanted, hgd])]
  exact wp_append_of hr s x ho hty hs hx h

def addN (T : List UC) (u : UC) : Int := if u.1 < 0 then 1 else if u ∈ T then 22 else 0
def addT (T : List UC) (u : UC) : List UC := if u.1 < 0 then T else if u ∈ T then T else T ++ [u]
def drpN (T : List UC) (u : UC) : Int := if u ∈ T then 0 else 23
/-- What a step of the document's leaves. -/
def UO (w w' : World) (q b : Nat) (v : Value) (T : List UC) : Prop := ∃ v', RDU w' q b v' T ∧ Fr (fun g => g = q ∨ v.ownBlock = some g) w w' ∧ (v'.ownBlock = v.ownBlock ∨ ∃ g, v'.ownBlock = some g ∧ w.heap.size ≤ g)
section
variable {w w' : World} {q b : Nat} {v : Value} {T : List UC}
theorem UO.same (h : RDU w q b v T) (k : Kp w w') : UO w w' q b v T := ⟨v, h.kp k, k.fr _, .inl rfl⟩
theorem RDU.put (h : RDU w q b v T) {v' : Value} {T' : List UC} (hx : AX LTu w b v' T') (hne : ∀ g, v'.ownBlock = some g → g ≠ q) : RDU (w.setCell ⟨q, 0, none⟩ v') q b v' T' := by
  refine ⟨heap_setCell_same w q 0 _ _ v' h.c, hx.fr (Fr.set (S := (· = q)) (Fr.refl _ _) ⟨q, 0, none⟩ v' rfl) (fun g _ _ e s => hne g e s), hne⟩
set_option maxHeartbeats 8000000 in
theorem uadd_any (h : RDU w q b v T) (hb : b ≤ w.heap.size) (hl : T.length ≤ 100000) (f : Int) (x : PLc) :
    Calls Try.prog 8 #[.pointer (some ⟨q, 0, none⟩), .int .i64 f, plV x] w fun e w' => e = .returned (.int .i64 (addN T (f, x))) ∧ UO w w' q b v (addT T (f, x)) := by
  unfold addN addT
  have ka : ∀ v', Kp w v' → Calls Try.prog 20 #[.pointer (some ⟨q, 0, none⟩), .int .i64 f, plV x] v' fun e w' => e = .returned (.int .i64 (atU T (f, x))) ∧ Kp v' w' := fun v' k => uat_any (h.kp k) (by omega) f x
  obtain ⟨xg, xp⟩ := x
  dsimp only
  unfold plV at *
  dsimp only at ka
  by_cases c1 : f < 0
  · rw [if_pos c1, if_pos c1]
    have HS : Hid (∀ w', Kp w w' → UO w w' q b v T) := fun w' k => UO.same h k
    clear ka h hl
    go_enter Try.func8, Try.ntmps8
    go_wp2_with fail
    go_ret
    exact ⟨rfl, HS.out _ ((Kp.refl w).alloc _)⟩
  · rw [if_neg c1, if_neg c1]
    by_cases c2 : (f, (xg, xp)) ∈ T
    · rw [if_pos c2, if_pos c2]
      have HS : Hid (∀ w', Kp w w' → UO w w' q b v T) := fun w' k => UO.same h k
      have e1 : atU T (f, (xg, xp)) = ((T.idxOf (f, (xg, xp)) : Nat) : Int) := if_pos c2
      rw [e1] at ka
      generalize T.idxOf (f, (xg, xp)) = i at *
      have y : 0 ≤ (i : Int) := by omega
      clear h hl e1
      go_enter Try.func8, Try.ntmps8
      go_wp2_with fail
      with_reducible refine (ka _ ((Kp.refl w).alloc _)).mono ?_
      rintro e w1 ⟨rfl, k1⟩
      have HK : Hid (UO w w1 q b v T) := HS.out _ (((Kp.refl w).alloc _).trans k1)
      clear k1 ka HS
      go_wp2_with fail
      go_ret
      exact ⟨rfl, HK.out⟩
    · rw [if_neg c2, if_neg c2]
      have e1 : atU T (f, (xg, xp)) = -1 := if_neg c2
      rw [e1] at ka
      have HH : Hid (RDU w q b v T ∧ b ≤ w.heap.size ∧ T.length ≤ 100000) := ⟨h, hb, hl⟩
      clear h hl e1 c2 hb
      go_enter Try.func8, Try.ntmps8
      go_wp2_with fail
      obtain ⟨bx, hbx⟩ : ∃ bx, bx = w.heap.size := ⟨_, rfl⟩
      rw [← hbx]
      with_reducible refine (ka _ ((Kp.refl w).alloc _)).mono ?_
      rintro e w1 ⟨rfl, k1⟩
      have kw : Kp w w1 := ((Kp.refl w).alloc _).trans k1
      have hbr : w1.heap[bx]? = some (.cells #[.int .i64 xg, .int .u64 xp] 31 (0, 0)) := by
        rw [hbx]; exact (k1.block w.heap.size (by simp)).trans (heap_alloc_new w _)
      have f0 : w1.cell? ⟨bx, 0, none⟩ = some (.int .i64 xg) := by rw [cell_of_row _ _ 0 _ _ _ hbr]; rfl
      have f1 : w1.cell? ⟨bx, 1, none⟩ = some (.int .u64 xp) := by rw [cell_of_row _ _ 1 _ _ _ hbr]; rfl
      have R1 := HH.out.1.kp kw
      have d0 := R1.c0
      have R1d : RDU w1.drew q b v T := R1.kp (Kp.refl w1).drew
      have ke : Kp w1.drew (w1.drew.alloc (.cells #[.int .i64 f, .int .i64 xg, .int .u64 xp] 56)) := (Kp.refl _).alloc _
      have s1 : AS LTu (w1.drew.alloc (.cells #[.int .i64 f, .int .i64 xg, .int .u64 xp] 56)) (some ⟨w1.drew.heap.size, 0, none⟩) [(f, (xg, xp))] := AS.made w1.drew [(f, (xg, xp))]
      obtain ⟨na2, n2, cap2, w2, r0, hn2, o2, g2, k2, j2⟩ := (R1d.ax.kp ke).app okT_use (Nat.le_trans HH.out.2.1 (kw.drew.trans ke).size) s1 (m := 1) (c := 1) rfl (fun e => by cases e) (by have := HH.out.2.2; simp; omega) 26
      have r1 : (Builtin.append_ #[26, 26] 26 #[v, .slice (some ⟨w1.heap.size, 0, none⟩) 1 1]).run Try.prog (w1.alloc (.cells #[.int .i64 f, .int .i64 xg, .int .u64 xp] 56)).drew = .ok (.slice na2 n2 cap2) w2 := r0
      have RA := R1.kp ((Kp.refl w1).alloc (.cells #[.int .i64 f, .int .i64 xg, .int .u64 xp] 56))
      have d1 := RA.c0
      have hq : ¬ v.ownBlock = some q := fun e => R1.ne q e rfl
      have R2 : RDU w2 q b v T → True := fun _ => trivial
      have c2 : w2.heap[q]? = some (.cells #[v] 28 (0, 0)) := by
        rw [g2.block q (by have := (R1d.kp ke).lt; exact this) hq]; exact (R1d.kp ke).c
      have d2 : w2.cell? ⟨q, 0, none⟩ = some v := by rw [cell_of_row w2 q 0 _ _ _ c2]; rfl
      have z2 : w2.frozen? ⟨q, 0, none⟩ = false := frozen_of_row w2 q 0 _ _ c2
      have hne : ∀ g, (Value.slice na2 n2 cap2).ownBlock = some g → g ≠ q := fun g hg => by
        rcases j2 with e | e
        · rw [hg] at e; exact R1.ne g e.symm
        · rw [hg] at e
          cases e
          have := (R1d.kp ke).lt
          omega
      have F : Hid (UO w (w2.setCell ⟨q, 0, none⟩ (.slice na2 n2 cap2)) q b v (T ++ [(f, (xg, xp))])) := by
        refine ⟨_, ⟨heap_setCell_same w2 q 0 _ _ _ c2, o2.fr (Fr.set (S := (· = q)) (Fr.refl _ _) ⟨q, 0, none⟩ _ rfl) (fun g _ _ e s => hne g e s), hne⟩, ?_, ?_⟩
        · exact (((kw.drew.trans ke).fr _).trans (g2.mono (fun g _ e => .inr e))).set ⟨q, 0, none⟩ _ (.inl rfl)
        · rcases j2 with e | e
          · exact .inl e
          · exact .inr ⟨_, e, (kw.drew.trans ke).size⟩
      clear HH kw k1 R1 R1d ke s1 r0 hn2 o2 g2 k2 j2 RA R2 hne c2 hq hbr ka hbx
      go_wp2_with fail
      go_region_law (first | (refine step_app_of r1 (by rfl) (.tmp 18) (.tmp 22) (by rfl) (by rfl) (by rfl) (by rfl) ?_))
      all_goals
        go_wp2
        go_ret
        exact ⟨rfl, F.out⟩
end

end Go.Proofs.Ytfpmakmemmnbkaa
