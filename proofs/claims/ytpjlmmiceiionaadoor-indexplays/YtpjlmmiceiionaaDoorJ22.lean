/- Joined: C5, C6. -/
import Derived.Test.YtpjlmmiceiionaaDoorJ20
import Derived.Test.YtpjlmmiceiionaaDoorLQ
import Derived.Deep.RegionLaw
/- index: a set with a frame more. -/
namespace Go.Proofs.YtpjlmmiceiionaaDoor
open Go.RowKit
set_option maxRecDepth 10000

section
variable {α : Type} {T : LT α} {w w' : World} {b : Nat} {v : Value} {L M : List α}
theorem AX.set (K : LTok T) {g n cap : Nat} (h : AX T w b (.slice (some ⟨g, 0, none⟩) n cap) L) {i j : Nat} {x x' : α} {u : Value} (hi : L[i]? = some x) (hj : j < T.sz) (he : T.enc x' = (T.enc x).set j u) :
    AX T (w.setCell ⟨g, i * T.sz + j, none⟩ u) b (.slice (some ⟨g, 0, none⟩) n cap) (L.set i x') ∧ Fr (· = g) w (w.setCell ⟨g, i * T.sz + j, none⟩ u) := by
  obtain ⟨h1, h2⟩ := OL.set K.E h.ol hi hj he
  exact ⟨⟨h1, fun q hq => ⟨(h.up q hq).1, by have := (h.up q hq).2; simpa using this⟩⟩, h2⟩
end
/-- append takes its second type for what it is. -/
theorem append_two {t u e e' : TypeId} (ht : Tryd.prog.underlying t = some (.slice e)) (hu : Tryd.prog.underlying u = some (.slice e')) (ty : TypeId) (a b : Value) (w : World) :
    (Builtin.append_ #[t, u] ty #[a, b]).run Tryd.prog w = (Builtin.append_ #[t, t] ty #[a, b]).run Tryd.prog w := by
  cases a <;> simp only [Builtin.append_, List.getElem?_toArray, List.getElem?_cons_zero, List.getElem?_cons_succ, Sem.run_bind, run_underlying ht, run_underlying hu, Result.andThen_ok, Sem.run_pure]
theorem wp_append2_of {P : Program} {w : World} {o : Oper} {a : Act} {K : Act → World → Prop} {Q : Exit → Act → World → Prop} {t u ty : TypeId} {vs vx v' : Value} {w' : World}
    (hr : (Builtin.append_ #[t, u] ty #[vs, vx]).run P w = .ok v' w') (s x : Operand) (ho : o.op = .call { callee := .builtin .append, args := #[s, x], argTypes := #[t, u] }) (hty : o.type = ty) (hs : a.eval s = vs) (hx : a.eval x = vx)
    (h : K (a.put o.dst v') w') : o.wp P a w K Q := by
  subst hty
  unfold Oper.wp execOp
  simp only [ho, resolve, invoke, builtin, Sem.run_bind, Sem.run_pure, Result.andThen_ok, List.map_toArray, List.map_cons, List.map_nil, hs, hx, hr]
  exact h

theorem wp_store_w {w : World} {oo : Oper} {a : Act} {K : Act → World → Prop} {Q : Exit → Act → World → Prop} {b j : Nat} {y z : Operand} {n : Int} {v0 : Value} (ho : oo.op = .store 33 y z) (hd : oo.dst = none) (hx : a.eval y = .pointer (some ⟨b, j, none⟩)) (hz : a.eval z = .int .u64 n) (hc : w.cell? ⟨b, j, none⟩ = some v0) (hf : w.frozen? ⟨b, j, none⟩ = false) (h : K a (w.setCell ⟨b, j, none⟩ (.int .u64 n))) : oo.wp Tryd.prog a w K Q := by
  unfold Oper.wp execOp
  generalize a.eval = ρ at hx hz ⊢
  simp [ho, hx, hz, go_sem, hc, hf, hd]
  exact h

theorem SWd.cells {w : World} {b g cap m : Nat} (h : SWd w b (.slice (some ⟨g, 0, none⟩) 1 cap) m) (hm : m ≠ 0) : g < w.heap.size ∧ b ≤ g ∧ w.cell? ⟨g, 0, none⟩ = some (.int .i64 0) ∧ w.cell? ⟨g, 1, none⟩ = some (.int .u64 (m : Int)) := by
  unfold SWd at h
  rw [wl_s hm] at h
  have h1 := h.up g rfl
  have e0 := OL.cell LTwd_ok.E h.ol (i := 0) (j := 0) (x := (0, m)) (u := .int .i64 0) rfl rfl
  have e1 := OL.cell LTwd_ok.E h.ol (i := 0) (j := 1) (x := (0, m)) (u := .int .u64 (m : Int)) rfl rfl
  exact ⟨h1.2, h1.1, by simpa using e0, by simpa using e1⟩
theorem SWd.frz {w : World} {b g cap m : Nat} (h : SWd w b (.slice (some ⟨g, 0, none⟩) 1 cap) m) (j : Nat) : w.frozen? ⟨g, j, none⟩ = false := OL.frz h.ol j
theorem SWd.put {w : World} {b g cap m z : Nat} (h : SWd w b (.slice (some ⟨g, 0, none⟩) 1 cap) m) (hm : m ≠ 0) (hz : z ≠ 0) : SWd (w.setCell ⟨g, 1, none⟩ (.int .u64 (z : Int))) b (.slice (some ⟨g, 0, none⟩) 1 cap) z ∧ Fr (· = g) w (w.setCell ⟨g, 1, none⟩ (.int .u64 (z : Int))) := by
  unfold SWd at *
  rw [wl_s hm] at h
  rw [wl_s hz]
  exact h.set LTwd_ok (i := 0) (j := 1) (x := (0, m)) (x' := (0, z)) rfl (by decide) rfl
theorem SWd.form {w : World} {b m : Nat} {v : Value} (h : SWd w b v m) (hm : m ≠ 0) : ∃ g cap, v = .slice (some ⟨g, 0, none⟩) 1 cap ∧ b ≤ g ∧ g < w.heap.size := by
  unfold SWd at h
  rw [wl_s hm] at h
  obtain ⟨na, cap, e, _, hc, _⟩ := h.form LTwd_ok
  rcases hc with ⟨_, _, c⟩ | ⟨g, rfl, h1, h2⟩
  · cases c
  · exact ⟨g, cap, e, h1, h2⟩
theorem SWd.fr {w w' : World} {b m : Nat} {v : Value} (h : SWd w b v m) {S : Nat → Prop} (k : Fr S w w') (hS : ∀ g, v.ownBlock = some g → ¬ S g) : SWd w' b v m := AX.fr h k (fun g _ _ e s => hS g e s)
theorem SWd.kpt {w w' : World} {b m : Nat} {v : Value} (h : SWd w b v m) (k : Kp w w') : SWd w' b v m := AX.kp h k
theorem or_ne0 (a : Nat) (b : Nat) : a ||| 2 ^ b ≠ 0 := fun e => by
  have h : (a ||| 2 ^ b).testBit b = true := by rw [Nat.testBit_or, Nat.testBit_two_pow]; simp
  rw [e] at h
  simp at h
theorem or_l64 {a b : Nat} (ha : a < 18446744073709551616) (hb : b < 18446744073709551616) : a ||| b < 18446744073709551616 := Nat.or_lt_two_pow (n := 64) ha hb

set_option maxHeartbeats 4000000 in
theorem iwith_1 (g cap m f : Nat) (hf : f < 64) (hm : m ≠ 0) (hl : m < 18446744073709551616) {w : World} {b : Nat} (h : SWd w b (.slice (some ⟨g, 0, none⟩) 1 cap) m) :
    Calls Tryd.prog 28 #[.slice (some ⟨g, 0, none⟩) 1 cap, .int .i64 (f : Int)] w fun e w' => e = .returned (.slice (some ⟨g, 0, none⟩) 1 cap) ∧ SWd w' b (.slice (some ⟨g, 0, none⟩) 1 cap) (m ||| 2 ^ f) ∧ Fr (· = g) w w' := by
  obtain ⟨h1, h2, c0, c1⟩ := h.cells hm
  have cs := ifind_1 g cap m f hf w h1 c0 c1
  have cb := fun w => ibit_any f hf w
  have hq := pw64l hf
  obtain ⟨q, eq⟩ : ∃ q, q = 2 ^ f := ⟨_, rfl⟩
  obtain ⟨z, ez⟩ : ∃ z, z = m ||| 2 ^ f := ⟨_, rfl⟩
  have a2 : bits .or .u64 (m : Int) (q : Int) = (z : Int) := by rw [ez, eq]; exact u64_or_nat m _ hl hq
  have hz : z ≠ 0 := by rw [ez]; exact or_ne0 m f
  rw [← ez]
  rw [← eq] at cb
  have HH : Hid (SWd w b (.slice (some ⟨g, 0, none⟩) 1 cap) m ∧ m ≠ 0 ∧ z ≠ 0) := ⟨h, hm, hz⟩
  clear h hm hz c0 c1 ez eq hq hl
  go_enter Tryd.func28, Tryd.ntmps28
  go_wp2_with fail
  with_reducible refine cs.mono ?_
  rintro e w1 ⟨rfl, k1⟩
  have s1 := HH.out.1.kpt k1
  have K1 : Hid (Kp w w1) := k1
  obtain ⟨_, _, d0, d1⟩ := s1.cells HH.out.2.1
  have f1 := s1.frz 1
  clear k1 h1 h2
  go_wp2_with fail
  refine wp_region_last 10 mixed (by kernel_rfl) (by kernel_rfl) ?_
  dsimp only [List.take]
  iterate 10 (quiet_step (first | (go_at_call 49; refine (cb _).mono ?_; rintro e w' ⟨rfl, rfl⟩; exact ⟨rfl, _, rfl⟩)))
  refine wpQuiet_nil ?_
  rintro _ ⟨nq, rfl⟩
  have KN := (Kp.refl w1).drewN nq
  obtain ⟨H1, H2⟩ := (s1.kpt KN).put HH.out.2.1 HH.out.2.2
  have F : Hid (SWd ((w1.drewN nq).setCell ⟨g, 1, none⟩ (.int .u64 (z : Int))) b (.slice (some ⟨g, 0, none⟩) 1 cap) z ∧ Fr (· = g) w ((w1.drewN nq).setCell ⟨g, 1, none⟩ (.int .u64 (z : Int)))) := ⟨H1, (Kp.fr _ K1.out).trans ((KN.fr _).trans H2)⟩
  have g1 : (w1.drewN nq).cell? ⟨g, 1, none⟩ = some (.int .u64 (m : Int)) := d1
  have g2 : (w1.drewN nq).frozen? ⟨g, 1, none⟩ = false := f1
  clear s1 HH H1 H2 KN d0 d1 f1
  refine wpOps_one rfl rfl (wp_store_w (n := (z : Int)) rfl rfl rfl rfl g1 g2 ?_)
  refine wpOps_nil ?_
  clear g1 g2
  go_wp2_with fail
  go_ret
  exact ⟨rfl, F.out⟩

end Go.Proofs.YtpjlmmiceiionaaDoor

/- index: slices.Insert into nothing; a set of one frame. -/
namespace Go.Proofs.YtpjlmmiceiionaaDoor
open Go.RowKit
set_option maxRecDepth 10000

set_option maxHeartbeats 4000000 in
theorem iinsert_0 (t : Nat) (x : Int × Nat) {w : World} (hs : AS LTwd w (some ⟨t, 0, none⟩) [x]) :
    Calls Tryd.prog 48 #[.slice none 0 0, .int .i64 0, .slice (some ⟨t, 0, none⟩) 1 1] w fun e w' => ∃ g cap, e = .returned (.slice (some ⟨g, 0, none⟩) 1 cap) ∧ AX LTwd w' w.heap.size (.slice (some ⟨g, 0, none⟩) 1 cap) [x] ∧ Kp w w' := by
  obtain ⟨na', n', cap', w1, r1, r2, r3, r4, r5, _⟩ := (AX.nil (T := LTwd) w w.heap.size).app LTwd_ok (Nat.le_refl _) hs rfl (fun c => by cases c) (by simp) 71
  replace r1 := (append_two (u := 70) Tryd.underlying71 Tryd.underlying70 _ _ _ w).trans r1
  have kk : Kp w w1 := r5 w (Nat.le_refl _) (Kp.refl w)
  obtain ⟨na2, cap2, e, _, hc, _⟩ := r3.form LTwd_ok
  cases e
  have HH : Hid (∃ g cap, (.returned (.slice na' ([] ++ [x]).length cap') : Ending) = .returned (.slice (some ⟨g, 0, none⟩) 1 cap) ∧ AX LTwd w1 w.heap.size (.slice (some ⟨g, 0, none⟩) 1 cap) [x] ∧ Kp w w1) := by
    rcases hc with ⟨_, _, c⟩ | ⟨g, rfl, h1, h2⟩
    · cases c
    · exact ⟨g, cap', rfl, r3, kk⟩
  clear r2 r3 r4 r5 hc kk
  go_enter Tryd.func48, Tryd.ntmps48
  repeat' (first | ((with_reducible refine wp_append2_of r1 (.tmp 23) (.tmp 24) ?_ ?_ ?_ ?_ ?_); rfl; rfl; rfl; rfl) | go_values | go_skip | go_guarded | go_step | go_upon | go_back | (simp only []) | (go_values <;> (try go_simp)) | (go_ite <;> go_prune <;> (try go_simp)))
  go_ret
  exact HH.out

theorem WX.cells {w : World} {b g cap m : Nat} (h : AX LTwd w b (.slice (some ⟨g, 0, none⟩) 1 cap) [(0, m)]) : g < w.heap.size ∧ b ≤ g ∧ w.cell? ⟨g, 0, none⟩ = some (.int .i64 0) ∧ w.cell? ⟨g, 1, none⟩ = some (.int .u64 (m : Int)) := by
  have h1 := h.up g rfl
  have e0 := OL.cell LTwd_ok.E h.ol (i := 0) (j := 0) (x := (0, m)) (u := .int .i64 0) rfl rfl
  have e1 := OL.cell LTwd_ok.E h.ol (i := 0) (j := 1) (x := (0, m)) (u := .int .u64 (m : Int)) rfl rfl
  exact ⟨h1.2, h1.1, by simpa using e0, by simpa using e1⟩
theorem WX.put {w : World} {b g cap m : Nat} (h : AX LTwd w b (.slice (some ⟨g, 0, none⟩) 1 cap) [(0, m)]) (z : Nat) : AX LTwd (w.setCell ⟨g, 1, none⟩ (.int .u64 (z : Int))) b (.slice (some ⟨g, 0, none⟩) 1 cap) [(0, z)] ∧ Fr (· = g) w (w.setCell ⟨g, 1, none⟩ (.int .u64 (z : Int))) :=
  h.set LTwd_ok (i := 0) (j := 1) (x := (0, m)) (x' := (0, z)) rfl (by decide) rfl

set_option maxHeartbeats 4000000 in
theorem iwith_0 (f : Nat) (hf : f < 64) (w : World) :
    Calls Tryd.prog 28 #[.slice none 0 0, .int .i64 (f : Int)] w fun e w' => ∃ g cap, e = .returned (.slice (some ⟨g, 0, none⟩) 1 cap) ∧ SWd w' w.heap.size (.slice (some ⟨g, 0, none⟩) 1 cap) (2 ^ f) ∧ Kp w w' := by
  have cs := ifind_0 none 0 f hf w
  have cb := fun w => ibit_any f hf w
  have hq := pw64l hf
  have hs := AS.made (T := LTwd) w [(0, 0)]
  have kA : Kp w (w.alloc (.cells #[.int .i64 0, .int .u64 0] 101)) := (Kp.refl w).alloc _
  have ci := iinsert_0 w.heap.size (0, 0) hs
  have sz : (w.alloc (.cells #[.int .i64 0, .int .u64 0] 101)).heap.size = w.heap.size + 1 := by simp
  change Calls _ _ _ (w.alloc (.cells #[.int .i64 0, .int .u64 0] 101)) _ at ci
  obtain ⟨q, eq⟩ : ∃ q, q = 2 ^ f := ⟨_, rfl⟩
  have a2 : bits .or .u64 0 (q : Int) = (q : Int) := by
    have := u64_or_nat 0 q (by omega) (by omega)
    rw [Nat.zero_or] at this
    exact this
  have q0 : q ≠ 0 := by rw [eq]; exact Nat.ne_of_gt (Nat.two_pow_pos f)
  have d0 : (f : Int) / 64 = 0 := by omega
  rw [← eq] at cb ⊢
  have HH : Hid (q ≠ 0 ∧ Kp w (w.alloc (.cells #[.int .i64 0, .int .u64 0] 101)) ∧ (w.alloc (.cells #[.int .i64 0, .int .u64 0] 101)).heap.size = w.heap.size + 1) := ⟨q0, kA, sz⟩
  clear hs kA sz eq hq q0
  go_enter Tryd.func28, Tryd.ntmps28
  go_wp2_with fail
  with_reducible refine cs.mono ?_
  rintro e w ⟨rfl, rfl⟩
  go_wp2_with fail
  with_reducible refine ci.mono ?_
  rintro e w2 ⟨g, cap, rfl, ax, k2⟩
  have K2 : Hid _ := ax
  have K3 : Hid _ := k2
  clear ax k2 ci
  go_wp2_with fail
  refine wp_region_last 10 mixed (by kernel_rfl) (by kernel_rfl) ?_
  dsimp only [List.take]
  obtain ⟨_, _, _, d1⟩ := WX.cells K2.out
  have f1 := OL.frz K2.out.ol 1
  iterate 10 (quiet_step (first | (go_at_call 49; refine (cb _).mono ?_; rintro e w' ⟨rfl, rfl⟩; exact ⟨rfl, _, rfl⟩)))
  refine wpQuiet_nil ?_
  rintro _ ⟨nq, rfl⟩
  have KN := (Kp.refl w2).drewN nq
  obtain ⟨H1, H2⟩ := WX.put (K2.out.kp KN) q
  have F : Hid (SWd ((w2.drewN nq).setCell ⟨g, 1, none⟩ (.int .u64 (q : Int))) w.heap.size (.slice (some ⟨g, 0, none⟩) 1 cap) q ∧ Kp w ((w2.drewN nq).setCell ⟨g, 1, none⟩ (.int .u64 (q : Int)))) := by
    have hup : (w.alloc (.cells #[.int .i64 0, .int .u64 0] 101)).heap.size ≤ g := (K2.out.up g rfl).1
    rw [HH.out.2.2] at hup
    refine ⟨?_, H2.kp ((HH.out.2.1.trans K3.out).trans KN) (fun i e => by subst e; omega)⟩
    unfold SWd
    rw [wl_s HH.out.1]
    exact H1.low (by show w.heap.size ≤ (w.alloc _).heap.size; simp)
  have g1 : (w2.drewN nq).cell? ⟨g, 1, none⟩ = some (.int .u64 ((0 : Nat) : Int)) := d1
  have g2 : (w2.drewN nq).frozen? ⟨g, 1, none⟩ = false := f1
  clear HH H1 H2 KN d1 f1 K2 K3
  refine wpOps_one rfl rfl (wp_store_w (n := (q : Int)) rfl rfl rfl rfl g1 g2 ?_)
  refine wpOps_nil ?_
  clear g1 g2
  go_wp2_with fail
  go_ret
  exact ⟨_, _, rfl, F.out⟩

theorem zero_wd (w : World) : (zeroValue 101).run Tryd.prog w = .ok (.agg #[.int .i64 0, .int .u64 0]) w := by kernel_rfl
theorem clear_1 {w : World} {g cap m : Nat} (c0 : w.cell? ⟨g, 0, none⟩ = some (.int .i64 0)) (c1 : w.cell? ⟨g, 1, none⟩ = some (.int .u64 (m : Int))) (f0 : w.frozen? ⟨g, 0, none⟩ = false) (f1 : w.frozen? ⟨g, 1, none⟩ = false) :
    (Builtin.clear_ #[71] 0 #[.slice (some ⟨g, 0, none⟩) 1 cap]).run Tryd.prog w = .ok (.tuple #[]) ((w.setCell ⟨g, 0, none⟩ (.int .i64 0)).setCell ⟨g, 1, none⟩ (.int .u64 0)) := by
  have hz : (Builtin.zeroCells (Value.agg #[.int .i64 0, .int .u64 0]).cells 1).toList = [.int .i64 0, .int .u64 0] := by kernel_rfl
  simp only [Builtin.clear_, List.getElem?_toArray, List.getElem?_cons_zero, Sem.run_bind, run_underlying Tryd.underlying71, Result.andThen_ok, zero_wd, hz]
  simp [go_sem, c0, c1, f0, f1]

set_option maxHeartbeats 4000000 in
theorem idelete_1 (g cap m : Nat) {w : World} {b : Nat} (h : AX LTwd w b (.slice (some ⟨g, 0, none⟩) 1 cap) [(0, m)]) :
    Calls Tryd.prog 53 #[.slice (some ⟨g, 0, none⟩) 1 cap, .int .i64 0, .int .i64 1] w fun e w' => ∃ na c, e = .returned (.slice na 0 c) ∧ Fr (· = g) w w' := by
  obtain ⟨h1, h2, c0, c1⟩ := WX.cells h
  have f0 := OL.frz h.ol 0
  have f1 := OL.frz h.ol 1
  have hc := h.len.2
  simp only [List.length_cons, List.length_nil] at hc
  have F : Hid (∀ n u v, Fr (· = g) w (((w.drewN n).setCell ⟨g, 0, none⟩ u).setCell ⟨g, 1, none⟩ v)) := fun n u v => ((Kp.fr (· = g) ((Kp.refl w).drewN n)).set ⟨g, 0, none⟩ u rfl).set ⟨g, 1, none⟩ v rfl
  clear h
  have hcl := clear_1 (w := w.drew) (cap := cap) c0 c1 f0 f1
  have fin : ∀ (x : Bool), (cap = 1) = (x = true) → Calls Tryd.prog 53 #[.slice (some ⟨g, 0, none⟩) 1 cap, .int .i64 0, .int .i64 1] w fun e w' => ∃ na c, e = .returned (.slice na 0 c) ∧ Fr (· = g) w w' := by
    intro x ex
    cases x
    · have hn : ¬ cap = 1 := by rw [ex]; simp
      clear ex
      go_enter Tryd.func53, Tryd.ntmps53
      go_wp2_with fail
      go_region_law (fail)
      all_goals
        go_wp2_with fail
        go_ret
        exact ⟨_, _, rfl, F.out 1 _ _⟩
    · have hn : cap = 1 := by rw [ex]
      subst hn
      clear ex
      go_enter Tryd.func53, Tryd.ntmps53
      go_wp2_with fail
      go_region_law (fail)
      all_goals
        go_wp2_with fail
        go_ret
        exact ⟨_, _, rfl, F.out 1 _ _⟩
  by_cases c : cap = 1
  · exact fin true (by simp [c])
  · exact fin false (by simp [c])

/-- What is left: the frames of z, or none. -/
def WoR (w' : World) (b g cap z : Nat) (e : Ending) : Prop := (z ≠ 0 ∧ e = .returned (.slice (some ⟨g, 0, none⟩) 1 cap) ∧ SWd w' b (.slice (some ⟨g, 0, none⟩) 1 cap) z) ∨ (z = 0 ∧ ∃ na c, e = .returned (.slice na 0 c))
set_option maxHeartbeats 4000000 in
theorem iwithout_1 (g cap m f : Nat) (hf : f < 64) (hm : m ≠ 0) (hl : m < 18446744073709551616) {w : World} {b : Nat} (h : SWd w b (.slice (some ⟨g, 0, none⟩) 1 cap) m) :
    Calls Tryd.prog 32 #[.slice (some ⟨g, 0, none⟩) 1 cap, .int .i64 (f : Int)] w fun e w' => Fr (· = g) w w' ∧ WoR w' b g cap (m &&& (18446744073709551615 - 2 ^ f)) e := by
  obtain ⟨h1, h2, c0, c1⟩ := h.cells hm
  have cs := ifind_1 g cap m f hf w h1 c0 c1
  have cb := fun w => ibit_any f hf w
  have hq := pw64l hf
  obtain ⟨q, eq⟩ : ∃ q, q = 2 ^ f := ⟨_, rfl⟩
  rw [← eq] at cb hq ⊢
  obtain ⟨z, ez⟩ : ∃ z, z = m &&& (18446744073709551615 - q) := ⟨_, rfl⟩
  have a2 : bits .andNot .u64 (m : Int) (q : Int) = (z : Int) := by rw [ez]; exact u64_andNot_nat m _ hl hq
  rw [← ez]
  have HH : Hid (SWd w b (.slice (some ⟨g, 0, none⟩) 1 cap) m ∧ m ≠ 0) := ⟨h, hm⟩
  clear h hm c0 c1 ez eq hq hl
  go_enter Tryd.func32, Tryd.ntmps32
  go_wp2_with fail
  with_reducible refine cs.mono ?_
  rintro e w1 ⟨rfl, k1⟩
  have s1 := HH.out.1.kpt k1
  have K1 : Hid (Kp w w1) := k1
  obtain ⟨_, _, d0, d1⟩ := s1.cells HH.out.2
  have f1 := s1.frz 1
  clear k1 h1 h2
  go_wp2_with fail
  refine wp_region_last 10 mixed (by kernel_rfl) (by kernel_rfl) ?_
  dsimp only [List.take]
  iterate 10 (quiet_step (first | (go_at_call 49; refine (cb _).mono ?_; rintro e w' ⟨rfl, rfl⟩; exact ⟨rfl, _, rfl⟩)))
  refine wpQuiet_nil ?_
  rintro _ ⟨nq, rfl⟩
  have KN := (Kp.refl w1).drewN nq
  have g1 : (w1.drewN nq).cell? ⟨g, 1, none⟩ = some (.int .u64 (m : Int)) := d1
  have g2 : (w1.drewN nq).frozen? ⟨g, 1, none⟩ = false := f1
  have ax : AX LTwd (w1.drewN nq) b (.slice (some ⟨g, 0, none⟩) 1 cap) [(0, m)] := by have := s1.kpt KN; unfold SWd at this; rwa [wl_s HH.out.2] at this
  obtain ⟨H1, H2⟩ := WX.put ax z
  have F : Hid (AX LTwd ((w1.drewN nq).setCell ⟨g, 1, none⟩ (.int .u64 (z : Int))) b (.slice (some ⟨g, 0, none⟩) 1 cap) [(0, z)] ∧ Fr (· = g) w ((w1.drewN nq).setCell ⟨g, 1, none⟩ (.int .u64 (z : Int)))) := ⟨H1, (Kp.fr _ K1.out).trans ((KN.fr _).trans H2)⟩
  clear s1 HH H1 H2 KN d0 d1 f1 ax
  refine wpOps_one rfl rfl (wp_store_w (n := (z : Int)) rfl rfl rfl rfl g1 g2 ?_)
  refine wpOps_nil ?_
  clear g1 g2
  generalize (w1.drewN nq).setCell ⟨g, 1, none⟩ (.int .u64 (z : Int)) = w2 at *
  obtain ⟨_, _, e0, e1⟩ := WX.cells F.out.1
  have cd := idelete_1 g cap z F.out.1
  by_cases hz : z = 0
  · subst hz
    clear e0
    go_wp2_with fail
    with_reducible refine cd.mono ?_
    rintro e w3 ⟨na, c, rfl, f3⟩
    have F3 : Hid (Fr (· = g) w2 w3) := f3
    clear f3 cd e1
    go_wp2_with fail
    go_ret
    exact ⟨F.out.2.trans F3.out, .inr ⟨rfl, _, _, rfl⟩⟩
  · have y1 : ¬ (z : Int) = 0 := by omega
    have HZ : Hid (z ≠ 0) := hz
    clear e0 cd hz
    go_wp2_with fail
    go_ret
    refine ⟨F.out.2, .inl ⟨HZ.out, rfl, ?_⟩⟩
    unfold SWd
    rw [wl_s HZ.out]
    exact F.out.1

end Go.Proofs.YtpjlmmiceiionaaDoor
