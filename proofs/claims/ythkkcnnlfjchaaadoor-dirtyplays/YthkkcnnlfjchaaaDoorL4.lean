/- dirty: Note, Forget. -/
import Derived.Test.YthkkcnnlfjchaaaDoorL3
namespace Go.Proofs.YthkkcnnlfjchaaaDoor
open Go.RowKit Go.Maps
set_option maxRecDepth 10000

section
variable {w w' : World} {p bm : Nat} {on : Bool} {W : Nat → Nat} {K : List Nat}
theorem DLg.add (h : DLg w p bm on W K) {x : Nat} (hx : x < 18446744073709551616) (m : MWd w' bm (addB W x) (addK K (x / 64))) (k : Fr (· = bm) w w') : DLg w' p bm on (addB W x) (addK K (x / 64)) := by
  refine ⟨(k.block p h.lt (fun e => h.ne e.symm)).trans h.c, m, h.ne, addB_low h.low x, fun y hy => ?_, fun y hy => ?_⟩
  · unfold addB
    by_cases e : y = x / 64
    · rw [e, setW_same]; exact or_ne _ _
    · rw [setW_other _ _ e]
      rcases (addK_mem K _ y).1 hy with c | c
      · exact absurd c e
      · exact h.tight y c
  · rcases (addK_mem K _ y).1 hy with c | c
    · omega
    · exact h.top y c
set_option maxHeartbeats 4000000 in
theorem note_any (h : DLg w p bm on W K) (x : Nat) (hx : x < 18446744073709551616) (hK : K.length ≤ 2000000) :
    Calls Tryd.prog 16 #[.pointer (some ⟨p, 0, none⟩), .int .u64 (x : Int)] w fun e w' => e = .returned (.bool (on && !hasW W x)) ∧ ∃ K', DLg w' p bm on (if on then addB W x else W) K' ∧ K'.length ≤ K.length + 1 ∧ Fr (· = bm) w w' := by
  have c0 := h.c0
  cases on with
  | false =>
    have H : Hid (DLg w p bm false W K) := h
    clear h hx
    go_enter Tryd.func16, Tryd.ntmps16
    go_wp2_with fail
    go_ret
    exact ⟨rfl, K, H.out, by omega, Fr.refl _ _⟩
  | true =>
    have ch := dghas_any h x hx
    cases e : hasW W x with
    | true =>
      rw [e] at ch
      have H : Hid (DLg w p bm true W K) := h
      have HE : Hid (addB W x = W) := addB_same e
      clear h hx
      go_enter Tryd.func16, Tryd.ntmps16
      go_wp2_with (go_at_call 19; with_reducible refine ch.mono ?_; rintro e w1 ⟨rfl, n, rfl⟩)
      go_ret
      exact ⟨rfl, K, (by rw [HE.out]; exact H.out.kp ((Kp.refl w).drewN n)), by omega, ((Kp.refl w).drewN n).fr _⟩
    | false =>
      rw [e] at ch
      obtain ⟨k, hk⟩ : ∃ k, k = x / 64 := ⟨_, rfl⟩
      obtain ⟨v, hv⟩ : ∃ v, v = W k := ⟨_, rfl⟩
      obtain ⟨q, hq⟩ : ∃ q, q = 2 ^ (x % 64) := ⟨_, rfl⟩
      obtain ⟨z, hz⟩ : ∃ z, z = v ||| q := ⟨_, rfl⟩
      have hkl : k < 18446744073709551616 := by omega
      have hvl : v < 18446744073709551616 := by rw [hv]; exact h.low k
      have hql : q < 18446744073709551616 := by rw [hq]; exact bit_lt64 x
      have hzl : z < 18446744073709551616 := by rw [hz]; exact or_lt64 hvl hql
      have a1 : (x : Int) / 64 = (k : Int) := by omega
      have a3 := wrap_w64 hkl
      have a2 : bits .or .u64 (v : Int) (q : Int) = (z : Int) := by rw [hz]; exact u64_or_nat v q hvl hql
      have hb := fun w => bit_any x hx w
      rw [← hq] at hb
      have eW : addB W x = setW W k z := by unfold addB; rw [← hk, ← hv, ← hq, ← hz]
      have HH : Hid (DLg w p bm true W K ∧ K.length ≤ 2000000 ∧ addB W x = setW W k z ∧ k = x / 64 ∧ v = W k ∧ k < 18446744073709551616 ∧ z < 18446744073709551616 ∧ x < 18446744073709551616) := ⟨h, hK, eW, hk, hv, hkl, hzl, hx⟩
      clear eW hz hq hv h hvl hql hzl e hK hx hk hkl
      go_enter Tryd.func16, Tryd.ntmps16
      go_wp2_with (go_at_call 19; with_reducible refine ch.mono ?_; rintro e w1 ⟨rfl, n, rfl⟩)
      clear ch c0
      have hd := HH.out.1.kp ((Kp.refl w).drewN n)
      have HF : Hid (Fr (· = bm) w (w.drewN n)) := ((Kp.refl w).drewN n).fr _
      generalize w.drewN n = w1 at *
      obtain ⟨w3, r3, m3, f3⟩ := (hd.kp (Kp.refl w1).drew).m.store k z HH.out.2.2.2.2.2.1 HH.out.2.2.2.2.2.2.1 (by have := HH.out.2.1; unfold maxLen; omega)
      have f3' : Fr (· = bm) w1 w3 := ((Kp.refl w1).drew.fr _).trans f3
      have HD : Hid (DLg w3 p bm true (addB W x) (addK K (x / 64)) ∧ Fr (· = bm) w w3) := by
        rw [← HH.out.2.2.1, HH.out.2.2.2.1] at m3
        exact ⟨hd.add HH.out.2.2.2.2.2.2.2 m3 f3', HF.out.trans f3'⟩
      have KS : Aside (∀ u, Fr (· = bm) w1 u → u.cell? ⟨p, 1, none⟩ = some (.map (some bm))) := fun u ku => (ku.cell (a := ⟨p, 1, none⟩) hd.lt (fun e => hd.ne e.symm)).trans hd.c1
      have F4 : Aside (Fr (· = bm) w1 w3) := f3'
      have l1 := (hd.kp (Kp.refl w1).drew).m.look k HH.out.2.2.2.2.2.1
      rw [← HH.out.2.2.2.2.1] at l1
      clear hd m3 f3 f3' HH HF
      go_wp2_with fail
      go_region_held3 (fun u => u.cell? ⟨p, 1, none⟩ = some (.map (some bm)))
        (first | exact KS.out _ ((Kp.refl _).drew.fr _) | exact KS.out _ F4.out)
        (first | (go_at_call 22; with_reducible refine (hb _).mono ?_; rintro e w' ⟨rfl, rfl⟩))
      all_goals
        clear KS F4
        go_wp2_with fail
        go_ret
        exact ⟨rfl, _, HD.out.1, addK_len _ _, HD.out.2⟩
theorem wpd_delete {P : Program} {w : World} {o : Oper} {a : Act} {K : Act → World → Prop} {Q : Exit → Act → World → Prop} {t k ty : TypeId} {vm vx v' : Value} {w' : World}
    (hr : (Builtin.delete_ #[t, k] ty #[vm, vx]).run P w = .ok v' w') (m x : Operand) (ho : o.op = .call { callee := .builtin .delete, args := #[m, x], argTypes := #[t, k] }) (hty : o.type = ty) (hm : a.eval m = vm) (hx : a.eval x = vx)
    (h : K (a.put o.dst v') w') : o.wp P a w K Q := by
  subst hty
  unfold Oper.wp execOp
  simp only [ho, resolve, invoke, builtin, Sem.run_bind, Sem.run_pure, Result.andThen_ok, List.map_toArray, List.map_cons, List.map_nil, hm, hx, hr]
  exact h
theorem setW_twice (W : Nat → Nat) (k a b : Nat) : setW (setW W k a) k b = setW W k b := by
  funext y
  unfold setW
  split <;> rfl
set_option maxHeartbeats 4000000 in
theorem forget_any (h : DLg w p bm on W K) (x : Nat) (hx : x < 18446744073709551616) (hK : K.length ≤ 2000000) :
    Calls Tryd.prog 7 #[.pointer (some ⟨p, 0, none⟩), .int .u64 (x : Int)] w fun e w' => e = .returned (.bool (hasW W x)) ∧ ∃ K', DLg w' p bm on (delB W x) K' ∧ K'.length ≤ K.length ∧ Fr (· = bm) w w' := by
  have ch := dghas_any h x hx
  cases e : hasW W x with
  | false =>
    rw [e] at ch
    have H : Hid (∀ n, DLg (w.drewN n) p bm on (delB W x) K) := fun n => by rw [delB_same h.low e]; exact h.kp ((Kp.refl w).drewN n)
    clear h hx
    go_enter Tryd.func7, Tryd.ntmps7
    go_wp2_with (go_at_call 19; with_reducible refine ch.mono ?_; rintro e w1 ⟨rfl, n, rfl⟩)
    go_ret
    exact ⟨rfl, K, H.out n, by omega, ((Kp.refl w).drewN n).fr _⟩
  | true =>
    rw [e] at ch
    obtain ⟨k, hk⟩ : ∃ k, k = x / 64 := ⟨_, rfl⟩
    obtain ⟨v, hv⟩ : ∃ v, v = W k := ⟨_, rfl⟩
    obtain ⟨q, hq⟩ : ∃ q, q = 2 ^ (x % 64) := ⟨_, rfl⟩
    obtain ⟨z, hz⟩ : ∃ z, z = v &&& (18446744073709551615 - q) := ⟨_, rfl⟩
    have hkl : k < 18446744073709551616 := by omega
    have hvl : v < 18446744073709551616 := by rw [hv]; exact h.low k
    have hql : q < 18446744073709551616 := by rw [hq]; exact bit_lt64 x
    have hzl : z < 18446744073709551616 := by rw [hz]; exact Nat.lt_of_le_of_lt Nat.and_le_left hvl
    have hkK : k ∈ K := Classical.byContradiction fun c => by
      have := h.m.out k c
      have := (hasW_and W x).2 e
      rw [← hk] at this
      simp_all
    have a1 : (x : Int) / 64 = (k : Int) := by omega
    have a3 := wrap_w64 hkl
    have a2 : bits .andNot .u64 (v : Int) (q : Int) = (z : Int) := by rw [hz]; exact u64_andNot_nat v q hvl hql
    have hb := fun w => bit_any x hx w
    rw [← hq] at hb
    have eW : delB W x = setW W k z := by unfold delB; rw [← hk, ← hv, ← hq, ← hz]
    have HH : Hid (DLg w p bm on W K ∧ K.length ≤ 2000000 ∧ delB W x = setW W k z ∧ k ∈ K ∧ v = W k ∧ k < 18446744073709551616 ∧ z < 18446744073709551616) := ⟨h, hK, eW, hkK, hv, hkl, hzl⟩
    clear eW hz hq hv h hvl hql hzl e hK hx hk hkl hkK
    go_enter Tryd.func7, Tryd.ntmps7
    go_wp2_with (go_at_call 19; with_reducible refine ch.mono ?_; rintro e w1 ⟨rfl, n, rfl⟩)
    clear ch
    have hd := HH.out.1.kp ((Kp.refl w).drewN n)
    have HF : Hid (Fr (· = bm) w (w.drewN n)) := ((Kp.refl w).drewN n).fr _
    generalize w.drewN n = w1 at *
    obtain ⟨w3, r3, m3, f3⟩ := (hd.kp (Kp.refl w1).drew).m.store k z HH.out.2.2.2.2.2.1 HH.out.2.2.2.2.2.2 (by have := HH.out.2.1; unfold maxLen; omega)
    have f3' : Fr (· = bm) w1 w3 := ((Kp.refl w1).drew.fr _).trans f3
    have m3' : MWd w3 bm (setW W k z) K := by
      have ea : addK K k = K := by unfold addK; rw [if_pos HH.out.2.2.2.1]
      rw [ea] at m3
      exact m3
    have KS : Aside (∀ u, Fr (· = bm) w1 u → u.cell? ⟨p, 1, none⟩ = some (.map (some bm))) := fun u ku => (ku.cell (a := ⟨p, 1, none⟩) hd.lt (fun e => hd.ne e.symm)).trans hd.c1
    have F4 : Aside (Fr (· = bm) w1 w3) := f3'
    have l1 := (hd.kp (Kp.refl w1).drew).m.look k HH.out.2.2.2.2.2.1
    rw [← HH.out.2.2.2.2.1] at l1
    have l3 := m3'.look k HH.out.2.2.2.2.2.1
    rw [setW_same] at l3
    have c3 : w3.heap[p]? = some (.cells #[.bool on, .map (some bm)] 48 (0, 0)) := (f3'.block p hd.lt (fun e => hd.ne e.symm)).trans hd.c
    have HC : Hid (w3.heap[p]? = some (.cells #[.bool on, .map (some bm)] 48 (0, 0)) ∧ Fr (· = bm) w w3 ∧ MWd w3 bm (setW W k z) K ∧ bm ≠ p ∧ (∀ y, W y < 18446744073709551616) ∧ (∀ y ∈ K, W y ≠ 0) ∧ ∀ y ∈ K, y < 288230376151711744) := ⟨c3, HF.out.trans f3', m3', hd.ne, hd.low, hd.tight, hd.top⟩
    clear hd m3 f3 f3' HF c3
    have c31 : w3.cell? ⟨p, 1, none⟩ = some (.map (some bm)) := KS.out _ F4.out
    by_cases ez : z = 0
    · have z1 : ((z : Int) == 0) = true := by rw [ez]; rfl
      obtain ⟨w5, r5, m5, f5⟩ := m3'.drop k HH.out.2.2.2.1 (0)
      have HD : Hid (∃ K', DLg w5 p bm on (delB W x) K' ∧ K'.length ≤ K.length ∧ Fr (· = bm) w w5) := by
        refine ⟨K.erase k, ⟨(f5.block p (Array.getElem?_eq_some_iff.1 HC.out.1).1 (fun e => HC.out.2.2.2.1 e.symm)).trans HC.out.1, ?_, HC.out.2.2.2.1, delB_low HC.out.2.2.2.2.1 x, fun y hy => ?_, fun y hy => HC.out.2.2.2.2.2.2 y (List.mem_of_mem_erase hy)⟩, by rw [List.length_erase_of_mem HH.out.2.2.2.1]; omega, HC.out.2.1.trans f5⟩
        · rw [HH.out.2.2.1, ez]
          rw [setW_twice] at m5
          exact m5
        · rw [HH.out.2.2.1]
          have hne : y ≠ k := fun e => by rw [e] at hy; exact m3'.nd.not_mem_erase hy
          rw [setW_other _ _ hne]
          exact HC.out.2.2.2.2.2.1 y (List.mem_of_mem_erase hy)
      clear m5 f5 HC HH m3' a1 ez
      go_wp2_with fail
      go_region_held3 (fun u => u.cell? ⟨p, 1, none⟩ = some (.map (some bm)))
        (first | exact KS.out _ ((Kp.refl _).drew.fr _) | exact KS.out _ F4.out)
        (first | (go_at_call 22; with_reducible refine (hb _).mono ?_; rintro e w' ⟨rfl, rfl⟩))
      all_goals
        clear KS F4
        repeat' (first | ((with_reducible refine wpd_delete r5 (.tmp 31) (.tmp 32) ?_ ?_ ?_ ?_ ?_); rfl; rfl; rfl; rfl) | go_values | go_skip | go_guarded | go_step | go_upon | go_back | (simp only []) | (go_values <;> (try go_simp)) | (go_ite <;> go_prune <;> (try go_simp)))
        go_ret
        exact ⟨rfl, HD.out⟩
    · have z1 : ((z : Int) == 0) = false := by simpa using ez
      have HD : Hid (∃ K', DLg w3 p bm on (delB W x) K' ∧ K'.length ≤ K.length ∧ Fr (· = bm) w w3) := by
        refine ⟨K, ⟨HC.out.1, by rw [HH.out.2.2.1]; exact m3', HC.out.2.2.2.1, delB_low HC.out.2.2.2.2.1 x, fun y hy => ?_, HC.out.2.2.2.2.2.2⟩, by omega, HC.out.2.1⟩
        rw [HH.out.2.2.1]
        unfold setW
        split
        · exact ez
        · exact HC.out.2.2.2.2.2.1 y hy
      clear HC HH m3' ez
      go_wp2_with fail
      go_region_held3 (fun u => u.cell? ⟨p, 1, none⟩ = some (.map (some bm)))
        (first | exact KS.out _ ((Kp.refl _).drew.fr _) | exact KS.out _ F4.out)
        (first | (go_at_call 22; with_reducible refine (hb _).mono ?_; rintro e w' ⟨rfl, rfl⟩))
      all_goals
        clear KS F4
        go_wp2_with fail
        go_ret
        exact ⟨rfl, HD.out⟩
end

end Go.Proofs.YthkkcnnlfjchaaaDoor
