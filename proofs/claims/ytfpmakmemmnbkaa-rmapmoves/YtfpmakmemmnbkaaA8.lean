/- rmap: Add, Drop. -/
import Derived.Test.YtfpmakmemmnbkaaA7
import Derived.Test.YtfpmakmemmnbkaaAE
namespace Go.Proofs.Ytfpmakmemmnbkaa
open Go.RowKit Go.Maps
set_option maxRecDepth 10000

section
variable {w w' : World} {p : Nat} {U : Nat → Prop} {bm : Nat} {g : Int → Option Nat} {K : List Int} {T : List UC} {f : Int} {x : PLc}
theorem nodup_add (h : T.Nodup) (hx : ¬ (f, x) ∈ T) : (T ++ [(f, x)]).Nodup := List.nodup_append.2 ⟨h, by simp, fun a ha c hc => by simp at hc; subst hc; exact fun e => hx (e ▸ ha)⟩
theorem ok_add (h : ∀ t ∈ T, okU t) (hx : okU (f, x)) : ∀ t ∈ T ++ [(f, x)], okU t := fun t ht => by
  rcases List.mem_append.1 ht with c | c
  · exact h t c
  · simp at c; rw [c]; exact hx
theorem RMp.add_old (h : RMp w p U bm g K T) {b : Nat} (hg : g f = some b) (hx : okU (f, x)) (hn : ¬ (f, x) ∈ T) (ps : PS w' b (usT T f ++ [x])) (k : Fr (· = b) w w') : RMp w' p U bm g K (T ++ [(f, x)]) := by
  obtain ⟨s1, s2, s3, s4, s5⟩ := h.set f b hg
  refine ⟨(k.block p (h.lim p h.up) (fun e => s3 e.symm)).trans h.c, h.mu.fr k (fun e => s4 e.symm), h.up, h.ub, h.nb, fun y c hy => ?_, fun y hy => ?_, h.inj, fun i hi => Nat.lt_of_lt_of_le (h.lim i hi) k.size, nodup_add h.nd hn, ok_add h.ok hx⟩
  · rw [usT_add]
    by_cases e : y = f
    · rw [if_pos e]
      rw [e, hg] at hy
      cases hy
      exact ⟨ps, s2, s3, s4, by simp⟩
    · rw [if_neg e]
      obtain ⟨t1, t2, t3, t4, t5⟩ := h.set y c hy
      exact ⟨t1.fr k (fun q => e (h.inj y f b (q ▸ hy) hg)), t2, t3, t4, t5⟩
  · rw [usT_add]
    have e : y ≠ f := fun e => by rw [e, hg] at hy; cases hy
    rw [if_neg e]
    exact h.non y hy
theorem RMp.add_new (h : RMp w p U bm g K T) {nb : Nat} (hg : g f = none) (hx : okU (f, x)) (hn : ¬ (f, x) ∈ T) (mu : MU w' bm (onG g f nb) (K ++ [f])) (ps : PS w' nb [x]) (k : Fr (· = bm) w w') (h1 : w.heap.size ≤ nb) : RMp w' p (fun i => U i ∨ i = nb) bm (onG g f nb) (K ++ [f]) (T ++ [(f, x)]) := by
  have hl := ps.lt
  refine ⟨(k.block p (h.lim p h.up) (fun e => h.nb e.symm)).trans h.c, mu, .inl h.up, .inl h.ub, h.nb, fun y c hy => ?_, fun y hy => ?_, fun y z c hy hz => ?_, fun i hi => ?_, nodup_add h.nd hn, ok_add h.ok hx⟩
  · rw [usT_add]
    by_cases e : y = f
    · rw [if_pos e]
      rw [e, onG_same] at hy
      cases hy
      rw [h.non f hg]
      exact ⟨ps, .inr rfl, fun q => by have := h.lim p h.up; omega, fun q => by have := h.lim bm h.ub; omega, by simp⟩
    · rw [if_neg e]
      rw [onG_other _ _ e] at hy
      obtain ⟨t1, t2, t3, t4, t5⟩ := h.set y c hy
      exact ⟨t1.fr k t4, .inl t2, t3, t4, t5⟩
  · rw [usT_add]
    have e : y ≠ f := fun e => by rw [e, onG_same] at hy; cases hy
    rw [if_neg e]
    rw [onG_other _ _ e] at hy
    exact h.non y hy
  · by_cases e : y = f
    · by_cases e2 : z = f
      · rw [e, e2]
      · rw [e, onG_same] at hy
        rw [onG_other _ _ e2] at hz
        cases hy
        have := h.lim _ (h.set z _ hz).2.1
        omega
    · rw [onG_other _ _ e] at hy
      by_cases e2 : z = f
      · rw [e2, onG_same] at hz
        cases hz
        have := h.lim _ (h.set y _ hy).2.1
        omega
      · rw [onG_other _ _ e2] at hz
        exact h.inj y z c hy hz
  · rcases hi with c | c
    · exact Nat.lt_of_lt_of_le (h.lim i c) k.size
    · rw [c]; exact hl
theorem RMp.drop_old (h : RMp w p U bm g K T) {b : Nat} (hg : g f = some b) (ps : PS w' b ((usT T f).erase x)) (hne : (usT T f).erase x ≠ []) (k : Fr (· = b) w w') : RMp w' p U bm g K (T.erase (f, x)) := by
  obtain ⟨s1, s2, s3, s4, s5⟩ := h.set f b hg
  refine ⟨(k.block p (h.lim p h.up) (fun e => s3 e.symm)).trans h.c, h.mu.fr k (fun e => s4 e.symm), h.up, h.ub, h.nb, fun y c hy => ?_, fun y hy => ?_, h.inj, fun i hi => Nat.lt_of_lt_of_le (h.lim i hi) k.size, h.nd.erase _, fun t ht => h.ok t (List.mem_of_mem_erase ht)⟩
  · rw [usT_erase]
    by_cases e : y = f
    · rw [if_pos e]
      rw [e, hg] at hy
      cases hy
      exact ⟨ps, s2, s3, s4, hne⟩
    · rw [if_neg e]
      obtain ⟨t1, t2, t3, t4, t5⟩ := h.set y c hy
      exact ⟨t1.fr k (fun q => e (h.inj y f b (q ▸ hy) hg)), t2, t3, t4, t5⟩
  · rw [usT_erase]
    have e : y ≠ f := fun e => by rw [e, hg] at hy; cases hy
    rw [if_neg e]
    exact h.non y hy
theorem RMp.drop_last (h : RMp w p U bm g K T) {b : Nat} (hg : g f = some b) (he : (usT T f).erase x = []) (mu : MU w' bm (noG g f) (K.erase f)) (k : Fr (fun i => i = b ∨ i = bm) w w') : RMp w' p U bm (noG g f) (K.erase f) (T.erase (f, x)) := by
  obtain ⟨s1, s2, s3, s4, s5⟩ := h.set f b hg
  refine ⟨(k.block p (h.lim p h.up) (fun e => e.elim (fun e => s3 e.symm) (fun e => h.nb e.symm))).trans h.c, mu, h.up, h.ub, h.nb, fun y c hy => ?_, fun y hy => ?_, fun y z c hy hz => ?_, fun i hi => Nat.lt_of_lt_of_le (h.lim i hi) k.size, h.nd.erase _, fun t ht => h.ok t (List.mem_of_mem_erase ht)⟩
  · rw [usT_erase]
    have e : y ≠ f := fun e => by rw [e, noG_same] at hy; cases hy
    rw [if_neg e]
    rw [noG_other _ e] at hy
    obtain ⟨t1, t2, t3, t4, t5⟩ := h.set y c hy
    exact ⟨t1.fr k (fun q => q.elim (fun q => e (h.inj y f b (q ▸ hy) hg)) t4), t2, t3, t4, t5⟩
  · rw [usT_erase]
    by_cases e : y = f
    · rw [if_pos e]; exact he
    · rw [if_neg e]
      rw [noG_other _ e] at hy
      exact h.non y hy
  · have e : y ≠ f := fun e => by rw [e, noG_same] at hy; cases hy
    have e2 : z ≠ f := fun e => by rw [e, noG_same] at hz; cases hz
    rw [noG_other _ e] at hy
    rw [noG_other _ e2] at hz
    exact h.inj y z c hy hz

theorem nil_not (b : Nat) (w : World) : (binOp .eql 53 (.map (some b)) (.map none)).run Try.prog w = .ok (.bool false) w := by kernel_rfl
theorem nil_is (w : World) : (binOp .eql 53 (.map none) (.map none)).run Try.prog w = .ok (.bool true) w := by kernel_rfl
set_option maxHeartbeats 8000000 in
theorem madd_any (h : RMp w p U bm g K T) (f : Int) (x : PLc) (hx : okU (f, x)) (hl : T.length ≤ 2000000) :
    Calls Try.prog 7 #[.pointer (some ⟨p, 0, none⟩), .int .i64 f, plV x] w fun e w' => e = .returned (.int .i64 (addN T (f, x))) ∧ UM w w' p U (addT T (f, x)) := by
  unfold addN addT
  have ka : ∀ v', Kp w v' → Calls Try.prog 13 #[.pointer (some ⟨p, 0, none⟩), .int .i64 f, plV x] v' fun e w' => e = .returned (.bool (decide ((f, x) ∈ T))) ∧ Kp v' w' := fun v' k => mhas_any (h.kp k) f x hx
  dsimp only
  by_cases c1 : f < 0
  · rw [if_pos c1, if_pos c1]
    have HS : Hid (∀ w', Kp w w' → UM w w' p U T) := fun w' k => UM.same h k
    obtain ⟨xg, xp⟩ := x
    unfold plV
    dsimp only
    clear ka h hl hx
    go_enter Try.func7, Try.ntmps7
    go_wp2_with fail
    go_ret
    exact ⟨rfl, HS.out _ ((Kp.refl w).alloc _)⟩
  · rw [if_neg c1, if_neg c1]
    by_cases c2 : (f, x) ∈ T
    · rw [if_pos c2, if_pos c2]
      rw [decide_eq_true c2] at ka
      have HS : Hid (∀ w', Kp w w' → UM w w' p U T) := fun w' k => UM.same h k
      obtain ⟨xg, xp⟩ := x
      unfold plV at *
      dsimp only at ka
      dsimp only
      clear h hl hx c2
      go_enter Try.func7, Try.ntmps7
      go_wp2_with fail
      with_reducible refine (ka _ ((Kp.refl w).alloc _)).mono ?_
      rintro e w1 ⟨rfl, k1⟩
      have HK : Hid (UM w w1 p U T) := HS.out _ (((Kp.refl w).alloc _).trans k1)
      clear k1 ka HS
      go_wp2_with fail
      go_ret
      exact ⟨rfl, HK.out⟩
    · rw [if_neg c2, if_neg c2]
      rw [decide_eq_false c2] at ka
      have HH : Hid (RMp w p U bm g K T ∧ okU (f, x) ∧ ¬ (f, x) ∈ T ∧ T.length ≤ 2000000) := ⟨h, hx, c2, hl⟩
      obtain ⟨xg, xp⟩ := x
      have hcx : Hid (plV (xg, xp) = .agg #[.int .i64 xg, .int .u64 xp]) := rfl
      unfold plV at ka ⊢
      dsimp only at ka ⊢
      clear h hl c2 hx
      go_enter Try.func7, Try.ntmps7
      go_wp2_with fail
      obtain ⟨bx, hbx⟩ : ∃ bx, bx = w.heap.size := ⟨_, rfl⟩
      rw [← hbx]
      with_reducible refine (ka _ ((Kp.refl w).alloc _)).mono ?_
      rintro e w1 ⟨rfl, k1⟩
      have kw : Kp w w1 := ((Kp.refl w).alloc _).trans k1
      have hbr : w1.heap[bx]? = some (.cells #[.int .i64 xg, .int .u64 xp] 31 (0, 0)) := by
        rw [hbx]; exact (k1.block w.heap.size (by simp)).trans (heap_alloc_new w _)
      have hbg : w.heap.size ≤ bx := by omega
      clear ka k1 hbx
      have R1 := HH.out.1.kp kw
      have d0 := R1.c0
      have l0 := R1.mu.look f HH.out.2.1.1
      cases hg : g f with
      | some b =>
        rw [hg] at l0
        have s1 := (R1.set f b hg).1.kp (Kp.refl w1).drew
        obtain ⟨w3, r3, p3, f3⟩ := s1.store (xg, xp) HH.out.2.1.2 (fun hm => HH.out.2.2.1 (usT_mem.1 hm)) (by have := usT_len T f; have := HH.out.2.2.2; unfold maxLen; omega)
        have r3' : (Instr.mapUpdate 53 (.map (some b)) (.agg #[.int .i64 xg, .int .u64 xp]) (.agg #[])).run Try.prog w1.drew = .ok () w3 := r3
        have f3' : Fr (· = b) w1 w3 := ((Kp.refl w1).drew.fr _).trans f3
        have F : Hid (UM w w3 p U (T ++ [(f, (xg, xp))])) := ⟨U, bm, g, K, R1.add_old hg HH.out.2.1 HH.out.2.2.1 p3 f3', (kw.fr U).trans (f3'.mono (fun i _ e => by have e : i = b := e; rw [e]; exact (R1.set f b hg).2.1)), fun _ hi => .inl hi⟩
        have KS : Aside (∀ v, Fr (· = b) w1 v → v.cell? ⟨p, 0, none⟩ = some (.map (some bm)) ∧ v.cell? ⟨bx, 0, none⟩ = some (.int .i64 xg) ∧ v.cell? ⟨bx, 1, none⟩ = some (.int .u64 xp) ∧ (Instr.lookup 49 (.map (some bm)) (.int .i64 f) false).run Try.prog v = .ok (.map (some b)) v) := fun v k => by
          obtain ⟨s1, s2, s3, s4, _⟩ := R1.set f b hg
          have hlb := HH.out.1.lim b s2
          have hr := (k.block bx (Array.getElem?_eq_some_iff.1 hbr).1 (fun e => by have e : bx = b := e; omega)).trans hbr
          refine ⟨(k.cell (a := ⟨p, 0, none⟩) (R1.lim p R1.up) (fun e => s3 e.symm)).trans d0, ?_, ?_, ?_⟩
          · rw [cell_of_row _ _ 0 _ _ _ hr]; rfl
          · rw [cell_of_row _ _ 1 _ _ _ hr]; rfl
          · have := (R1.mu.fr k (fun e => s4 e.symm)).look f HH.out.2.1.1
            rw [hg] at this
            exact this
        have f4 : Aside (Fr (· = b) w1 w3) := f3'
        have q0 := nil_not b w1
        clear R1 hg s1 p3 f3 f3' HH r3 hbr kw
        go_wp2_with fail
        go_region_held3 (fun v => v.cell? ⟨p, 0, none⟩ = some (.map (some bm)) ∧ v.cell? ⟨bx, 0, none⟩ = some (.int .i64 xg) ∧ v.cell? ⟨bx, 1, none⟩ = some (.int .u64 xp) ∧ (Instr.lookup 49 (.map (some bm)) (.int .i64 f) false).run Try.prog v = .ok (.map (some b)) v)
          (first | exact KS.out _ ((Kp.refl _).drew.fr _) | exact KS.out _ f4.out) (fail)
        all_goals
          clear KS f4
          go_wp2_with fail
          go_ret
          exact ⟨rfl, F.out⟩
      | none =>
        rw [hg] at l0
        have q0 := nil_is w1
        obtain ⟨nb, hnb⟩ : ∃ nb, nb = w1.heap.size := ⟨_, rfl⟩
        obtain ⟨wa, hwa⟩ : ∃ wa, wa = w1.alloc (.map #[] 0) := ⟨_, rfl⟩
        have ka : Kp w1 wa := by rw [hwa]; exact (Kp.refl w1).alloc _
        have pa : PS wa nb [] := by rw [hwa, hnb]; exact PS.made w1
        have hbm := R1.lim bm R1.ub
        obtain ⟨w2, r2, m2, f2⟩ := (R1.mu.kp ka).store f nb HH.out.2.1.1 hg (by have := R1.klen; have := HH.out.2.2.2; unfold maxLen; omega)
        have p2 : PS w2.drew nb [] := (pa.fr f2 (by omega)).kp (Kp.refl w2).drew
        obtain ⟨w3, r3, p3, f3⟩ := p2.store (xg, xp) HH.out.2.1.2 (by simp) (by simp [maxLen])
        have r3' : (Instr.mapUpdate 53 (.map (some nb)) (.agg #[.int .i64 xg, .int .u64 xp]) (.agg #[])).run Try.prog w2.drew = .ok () w3 := r3
        have f12 : Fr (· = bm) w1 w2 := (ka.fr _).trans f2
        have f3' : Fr (· = nb) w2 w3 := ((Kp.refl w2).drew.fr _).trans f3
        have f13 : Fr (· = bm) w1 w3 := f12.trans2 f3' (fun i hi e => by have e : i = nb := e; omega)
        have m3 := m2.fr f3' (show ¬ bm = nb by omega)
        have F : Hid (UM w w3 p U (T ++ [(f, (xg, xp))])) := by
          refine ⟨_, bm, _, _, R1.add_new hg HH.out.2.1 HH.out.2.2.1 m3 p3 f13 (by omega), (kw.fr U).trans (f13.mono (fun i _ e => by have e : i = bm := e; rw [e]; exact R1.ub)), fun i hi => hi.imp id (fun e => ?_)⟩
          rw [e, hnb]; exact kw.size
        have KS : Aside (∀ v, Fr (· = nb) w2 v → v.cell? ⟨p, 0, none⟩ = some (.map (some bm)) ∧ v.cell? ⟨bx, 0, none⟩ = some (.int .i64 xg) ∧ v.cell? ⟨bx, 1, none⟩ = some (.int .u64 xp) ∧ (Instr.lookup 49 (.map (some bm)) (.int .i64 f) false).run Try.prog v = .ok (.map (some nb)) v) := fun v k => by
          have kv : Fr (· = bm) w1 v := f12.trans2 k (fun i hi e => by have e : i = nb := e; omega)
          have hbl := (Array.getElem?_eq_some_iff.1 hbr).1
          have hlb := HH.out.1.lim bm HH.out.1.ub
          have hr := (kv.block bx hbl (fun e => by have e : bx = bm := e; omega)).trans hbr
          refine ⟨(kv.cell (a := ⟨p, 0, none⟩) (R1.lim p R1.up) (fun e => R1.nb e.symm)).trans d0, ?_, ?_, ?_⟩
          · rw [cell_of_row _ _ 0 _ _ _ hr]; rfl
          · rw [cell_of_row _ _ 1 _ _ _ hr]; rfl
          · have := (m2.fr k (show ¬ bm = nb by omega)).look f HH.out.2.1.1
            rw [onG_same] at this
            exact this
        have f4 : Aside (Fr (· = nb) w2 w3) := f3'
        have d2 := (KS.out w2 (Fr.refl _ _)).1
        have dm : (Instr.makeMap 53 none).run Try.prog w1 = .ok (.map (some nb)) wa := by rw [hwa, hnb]; exact run_makeMap 53 w1
        have da : wa.cell? ⟨p, 0, none⟩ = some (.map (some bm)) := (ka.cell (p := ⟨p, 0, none⟩) (R1.lim p R1.up)).trans d0
        clear R1 hg p2 p3 f3 f3' HH r3 hbr kw f12 f13 m2 m3 f2 pa ka hwa d2 hbm hnb
        go_wp2_with fail
        go_region_held3 (fun v => v.cell? ⟨p, 0, none⟩ = some (.map (some bm)) ∧ v.cell? ⟨bx, 0, none⟩ = some (.int .i64 xg) ∧ v.cell? ⟨bx, 1, none⟩ = some (.int .u64 xp) ∧ (Instr.lookup 49 (.map (some bm)) (.int .i64 f) false).run Try.prog v = .ok (.map (some nb)) v)
          (first | exact KS.out _ ((Kp.refl _).drew.fr _) | exact KS.out _ f4.out) (fail)
        all_goals
          clear KS f4
          go_wp2_with fail
          go_ret
          exact ⟨rfl, F.out⟩

theorem wp_delete_of {P : Program} {w : World} {o : Oper} {a : Act} {K : Act → World → Prop} {Q : Exit → Act → World → Prop} {t k ty : TypeId} {vm vx v' : Value} {w' : World}
    (hr : (Builtin.delete_ #[t, k] ty #[vm, vx]).run P w = .ok v' w') (m x : Operand) (ho : o.op = .call { callee := .builtin .delete, args := #[m, x], argTypes := #[t, k] }) (hty : o.type = ty) (hm : a.eval m = vm) (hx : a.eval x = vx)
    (h : K (a.put o.dst v') w') : o.wp P a w K Q := by
  subst hty
  unfold Oper.wp execOp
  simp only [ho, resolve, invoke, builtin, Sem.run_bind, Sem.run_pure, Result.andThen_ok, List.map_toArray, List.map_cons, List.map_nil, hm, hx, hr]
  exact h
theorem wp_maplen_of {P : Program} {w : World} {o : Oper} {a : Act} {K : Act → World → Prop} {Q : Exit → Act → World → Prop} {t ty : TypeId} {vm v' : Value} {w' : World}
    (hr : (Builtin.len_ #[t] ty #[vm]).run P w = .ok v' w') (m : Operand) (ho : o.op = .call { callee := .builtin .len, args := #[m], argTypes := #[t] }) (hty : o.type = ty) (hm : a.eval m = vm)
    (h : K (a.put o.dst v') w') : o.wp P a w K Q := by
  subst hty
  unfold Oper.wp execOp
  simp only [ho, resolve, invoke, builtin, Sem.run_bind, Sem.run_pure, Result.andThen_ok, List.map_toArray, List.map_cons, List.map_nil, hm, hr]
  exact h
theorem step_delete_of {P : Program} {w : World} {ops : Array Oper} {o : Oper} {a : Act} {K : Act → World → Prop} {Q : Exit → Act → World → Prop} {E : Prop} {t k ty : TypeId} {vm vx v' : Value} {w' : World}
    (hr : (Builtin.delete_ #[t, k] ty #[vm, vx]).run P w = .ok v' w') (hgd : o.guard = none) (m x : Operand) (ho : o.op = .call { callee := .builtin .delete, args := #[m, x], argTypes := #[t, k] }) (hty : o.type = ty) (hm : a.eval m = vm) (hx : a.eval x = vx)
    (h : K (a.put o.dst v') w') : if Region.wanted o (yielded ops a.tmps) = true then Oper.wp P o a w K Q else E := by
  rw [if_pos (by simp [Region.wanted, hgd])]
  exact wp_delete_of hr m x ho hty hm hx h

def drpT (T : List UC) (u : UC) : List UC := T.erase u
set_option maxHeartbeats 8000000 in
theorem mdrop_any (h : RMp w p U bm g K T) (f : Int) (x : PLc) (hx : okU (f, x)) (hl : T.length ≤ 2000000) :
    Calls Try.prog 9 #[.pointer (some ⟨p, 0, none⟩), .int .i64 f, plV x] w fun e w' => e = .returned (.int .i64 (drpN T (f, x))) ∧ UM w w' p U (T.erase (f, x)) := by
  unfold drpN
  have ka : ∀ v', Kp w v' → Calls Try.prog 13 #[.pointer (some ⟨p, 0, none⟩), .int .i64 f, plV x] v' fun e w' => e = .returned (.bool (decide ((f, x) ∈ T))) ∧ Kp v' w' := fun v' k => mhas_any (h.kp k) f x hx
  by_cases c2 : (f, x) ∈ T
  · rw [if_pos c2]
    rw [decide_eq_true c2] at ka
    obtain ⟨b, hg⟩ : ∃ b, g f = some b := by
      cases e : g f with
      | none => have := h.non f e; have hm := usT_mem.2 c2; rw [this] at hm; cases hm
      | some b => exact ⟨b, rfl⟩
    have HH : Hid (RMp w p U bm g K T ∧ okU (f, x) ∧ (f, x) ∈ T ∧ T.length ≤ 2000000 ∧ g f = some b) := ⟨h, hx, c2, hl, hg⟩
    obtain ⟨xg, xp⟩ := x
    unfold plV at ka ⊢
    dsimp only at ka ⊢
    clear h hl c2 hx hg
    go_enter Try.func9, Try.ntmps9
    go_wp2_with fail
    obtain ⟨bx, hbx⟩ : ∃ bx, bx = w.heap.size := ⟨_, rfl⟩
    rw [← hbx]
    with_reducible refine (ka _ ((Kp.refl w).alloc _)).mono ?_
    rintro e w1 ⟨rfl, k1⟩
    have kw : Kp w w1 := ((Kp.refl w).alloc _).trans k1
    have hbr : w1.heap[bx]? = some (.cells #[.int .i64 xg, .int .u64 xp] 31 (0, 0)) := by
      rw [hbx]; exact (k1.block w.heap.size (by simp)).trans (heap_alloc_new w _)
    have hbg : w.heap.size ≤ bx := by omega
    clear ka k1 hbx
    have R1 := HH.out.1.kp kw
    have hg := HH.out.2.2.2.2
    have s1 := (R1.set f b hg).1.kp (Kp.refl w1).drew
    obtain ⟨w3, r3, p3, f3⟩ := s1.drop (xg, xp) HH.out.2.1.2 (usT_mem.2 HH.out.2.2.1) 0
    have r3' : (Builtin.delete_ #[53, 31] 0 #[.map (some b), .agg #[.int .i64 xg, .int .u64 xp]]).run Try.prog w1.drew = .ok (.tuple #[]) w3 := r3
    have f3' : Fr (· = b) w1 w3 := ((Kp.refl w1).drew.fr _).trans f3
    have KS : Aside (∀ v, Fr (· = b) w1 v → v.cell? ⟨p, 0, none⟩ = some (.map (some bm)) ∧ v.cell? ⟨bx, 0, none⟩ = some (.int .i64 xg) ∧ v.cell? ⟨bx, 1, none⟩ = some (.int .u64 xp) ∧ (Instr.lookup 49 (.map (some bm)) (.int .i64 f) false).run Try.prog v = .ok (.map (some b)) v) := fun v k => by
      obtain ⟨s1, s2, s3, s4, _⟩ := R1.set f b hg
      have hlb := HH.out.1.lim b s2
      have hr := (k.block bx (Array.getElem?_eq_some_iff.1 hbr).1 (fun e => by have e : bx = b := e; omega)).trans hbr
      refine ⟨(k.cell (a := ⟨p, 0, none⟩) (R1.lim p R1.up) (fun e => s3 e.symm)).trans R1.c0, ?_, ?_, ?_⟩
      · rw [cell_of_row _ _ 0 _ _ _ hr]; rfl
      · rw [cell_of_row _ _ 1 _ _ _ hr]; rfl
      · have := (R1.mu.fr k (fun e => s4 e.symm)).look f HH.out.2.1.1
        rw [hg] at this
        exact this
    have f4 : Aside (Fr (· = b) w1 w3) := f3'
    have m3 := R1.mu.fr f3' (fun e => (R1.set f b hg).2.2.2.1 e.symm)
    have sb := (R1.set f b hg).2.1
    obtain ⟨w4, r4, m4, f4'⟩ := m3.drop f HH.out.2.1.1 (by rw [hg]; rfl) 0
    have F1 : Hid ((usT T f).erase (xg, xp) = [] → UM w w4 p U (T.erase (f, (xg, xp)))) := fun he => by
      have f14 : Fr (fun i => i = b ∨ i = bm) w1 w4 := (f3'.mono (fun _ _ e => .inl e)).trans (f4'.mono (fun _ _ e => .inr e))
      refine ⟨U, bm, noG g f, K.erase f, R1.drop_last hg he m4 f14, (kw.fr U).trans (f14.mono (fun i _ e => ?_)), fun _ hi => .inl hi⟩
      rcases e with e | e
      · rw [e]; exact sb
      · rw [e]; exact R1.ub
    have F2 : Hid ((usT T f).erase (xg, xp) ≠ [] → UM w w3 p U (T.erase (f, (xg, xp)))) := fun he =>
      ⟨U, bm, g, K, R1.drop_old hg p3 he f3', (kw.fr U).trans (f3'.mono (fun i _ e => by have e : i = b := e; rw [e]; exact sb)), fun _ hi => .inl hi⟩
    have n3 := p3.len 3
    obtain ⟨nn, hnn⟩ : ∃ nn, nn = ((usT T f).erase (xg, xp)).length := ⟨_, rfl⟩
    rw [← hnn] at n3
    have HN : Hid (nn = ((usT T f).erase (xg, xp)).length) := hnn
    obtain ⟨d3, _, _, l3⟩ := KS.out w3 f3'
    clear R1 hg s1 p3 f3 f3' r3 hbr kw hnn m3 sb m4 f4'
    go_wp2_with fail
    go_region_held3 (fun v => v.cell? ⟨p, 0, none⟩ = some (.map (some bm)) ∧ v.cell? ⟨bx, 0, none⟩ = some (.int .i64 xg) ∧ v.cell? ⟨bx, 1, none⟩ = some (.int .u64 xp) ∧ (Instr.lookup 49 (.map (some bm)) (.int .i64 f) false).run Try.prog v = .ok (.map (some b)) v)
      (first | exact KS.out _ ((Kp.refl _).drew.fr _) | exact KS.out _ f4.out) (first | (refine step_delete_of r3' (by rfl) (.tmp 17) (.tmp 18) (by rfl) (by rfl) (by rfl) (by rfl) ?_) | (refine wp_delete_of r3' (.tmp 17) (.tmp 18) (by rfl) (by rfl) (by rfl) (by rfl) ?_))
    all_goals
      clear KS f4 r3' hbg HH
      by_cases c : nn = 0
      · have E := F1.out (List.length_eq_zero_iff.1 (by rw [← HN.out]; exact c))
        have HE : Hid (UM w w4 p U (T.erase (f, (xg, xp)))) := E
        subst c
        clear E F1 F2 HN
        repeat' (first | ((with_reducible refine wp_maplen_of n3 (.tmp 24) ?_ ?_ ?_ ?_); rfl; rfl; rfl) | ((with_reducible refine wp_delete_of r4 (.tmp 30) (.tmp 31) ?_ ?_ ?_ ?_ ?_); rfl; rfl; rfl; rfl) | go_values | go_skip | go_guarded | go_step | go_upon | go_back | (simp only []) | (go_values <;> (try go_simp)) | (go_ite <;> go_prune <;> (try go_simp)))
        go_ret
        exact ⟨rfl, HE.out⟩
      · have E := F2.out (fun e => c (by rw [HN.out, e]; rfl))
        have HE : Hid (UM w w3 p U (T.erase (f, (xg, xp)))) := E
        have y : ((nn : Int) == 0) = false := by rw [beq_eq_false_iff_ne]; omega
        clear E F1 F2 HN r4 c
        repeat' (first | ((with_reducible refine wp_maplen_of n3 (.tmp 24) ?_ ?_ ?_ ?_); rfl; rfl; rfl) | go_values | go_skip | go_guarded | go_step | go_upon | go_back | (simp only []) | (go_values <;> (try go_simp)) | (go_ite <;> go_prune <;> (try go_simp)))
        go_ret
        exact ⟨rfl, HE.out⟩
  · rw [if_neg c2]
    rw [decide_eq_false c2] at ka
    have HS : Hid (∀ w', Kp w w' → UM w w' p U (T.erase (f, x))) := fun w' k => by rw [List.erase_of_not_mem c2]; exact UM.same h k
    obtain ⟨xg, xp⟩ := x
    unfold plV at *
    dsimp only at ka HS
    clear h hl hx c2
    go_enter Try.func9, Try.ntmps9
    go_wp2_with fail
    with_reducible refine (ka _ ((Kp.refl w).alloc _)).mono ?_
    rintro e w1 ⟨rfl, k1⟩
    have HK : Hid (UM w w1 p U (T.erase (f, (xg, xp)))) := HS.out _ (((Kp.refl w).alloc _).trans k1)
    clear k1 ka HS
    go_wp2_with fail
    go_ret
    exact ⟨rfl, HK.out⟩
end

end Go.Proofs.Ytfpmakmemmnbkaa
