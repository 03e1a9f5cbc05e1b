/- index: a set with a frame more. -/
import Derived.Test.YtpjlmmiceiionaaDoorJ23
import Derived.Test.YtpjlmmiceiionaaDoorLQ
import Derived.Deep.RegionLaw
namespace Go.Proofs.YtpjlmmiceiionaaDoor
open Go.RowKit
set_option maxRecDepth 10000

section
variable {α : Type} {T : LT α} {w w' : World} {b : Nat} {v : Value} {L M : List α}
theorem AX.set (K : LTok T) {g n cap : Nat} (h : AX T w b (.slice (some ⟨g, 0, none⟩) n cap) L) {i j : Nat} {x x' : α} {u : Value} (hi : L[i]? = some x) (hj : j < T.sz) (he : T.enc x' = (T.enc x).set j u) :
    AX T (w.setCell ⟨g, i * T.sz + j, none⟩ u) b (.slice (some ⟨g, 0, none⟩) n cap) (L.set i x') ∧ Fr (· = g) w (w.setCell ⟨g, i * T.sz + j, none⟩ u) := by
  obtain ⟨h1, h2⟩ := OL.set K.E h.ol hi hj he
  exact ⟨⟨h1, fun q hq => ⟨(h.up q hq).1, by have := (h.up q hq).2; simpa using this⟩⟩, h2⟩
end
/-- append takes its second type for what it is. -/
theorem append_two {t u e e' : TypeId} (ht : Tryd.prog.underlying t = some (.slice e)) (hu : Tryd.prog.underlying u = some (.slice e')) (ty : TypeId) (a b : Value) (w : World) :
    (Builtin.append_ #[t, u] ty #[a, b]).run Tryd.prog w = (Builtin.append_ #[t, t] ty #[a, b]).run Tryd.prog w := by
  cases a <;> simp only [Builtin.append_, List.getElem?_toArray, List.getElem?_cons_zero, List.getElem?_cons_succ, Sem.run_bind, run_underlying ht, run_underlying hu, Result.andThen_ok, Sem.run_pure]
theorem wp_append2_of {P : Program} {w : World} {o : Oper} {a : Act} {K : Act → World → Prop} {Q : Exit → Act → World → Prop} {t u ty : TypeId} {vs vx v' : Value} {w' : World}
    (hr : (Builtin.append_ #[t, u] ty #[vs, vx]).run P w = .ok v' w') (s x : Operand) (ho : o.op = .call { callee := .builtin .append, args := #[s, x], argTypes := #[t, u] }) (hty : o.type = ty) (hs : a.eval s = vs) (hx : a.eval x = vx)
    (h : K (a.put o.dst v') w') : o.wp P a w K Q := by
  subst hty
  unfold Oper.wp execOp
  simp only [ho, resolve, invoke, builtin, Sem.run_bind, Sem.run_pure, Result.andThen_ok, List.map_toArray, List.map_cons, List.map_nil, hs, hx, hr]
  exact h

theorem wp_store_w {w : World} {oo : Oper} {a : Act} {K : Act → World → Prop} {Q : Exit → Act → World → Prop} {b j : Nat} {y z : Operand} {n : Int} {v0 : Value} (ho : oo.op = .store 33 y z) (hd : oo.dst = none) (hx : a.eval y = .pointer (some ⟨b, j, none⟩)) (hz : a.eval z = .int .u64 n) (hc : w.cell? ⟨b, j, none⟩ = some v0) (hf : w.frozen? ⟨b, j, none⟩ = false) (h : K a (w.setCell ⟨b, j, none⟩ (.int .u64 n))) : oo.wp Tryd.prog a w K Q := by
  unfold Oper.wp execOp
  generalize a.eval = ρ at hx hz ⊢
  simp [ho, hx, hz, go_sem, hc, hf, hd]
  exact h

theorem SWd.cells {w : World} {b g cap m : Nat} (h : SWd w b (.slice (some ⟨g, 0, none⟩) 1 cap) m) (hm : m ≠ 0) : g < w.heap.size ∧ b ≤ g ∧ w.cell? ⟨g, 0, none⟩ = some (.int .i64 0) ∧ w.cell? ⟨g, 1, none⟩ = some (.int .u64 (m : Int)) := by
  unfold SWd at h
  rw [wl_s hm] at h
  have h1 := h.up g rfl
  have e0 := OL.cell LTwd_ok.E h.ol (i := 0) (j := 0) (x := (0, m)) (u := .int .i64 0) rfl rfl
  have e1 := OL.cell LTwd_ok.E h.ol (i := 0) (j := 1) (x := (0, m)) (u := .int .u64 (m : Int)) rfl rfl
  exact ⟨h1.2, h1.1, by simpa using e0, by simpa using e1⟩
theorem SWd.frz {w : World} {b g cap m : Nat} (h : SWd w b (.slice (some ⟨g, 0, none⟩) 1 cap) m) (j : Nat) : w.frozen? ⟨g, j, none⟩ = false := OL.frz h.ol j
theorem SWd.put {w : World} {b g cap m z : Nat} (h : SWd w b (.slice (some ⟨g, 0, none⟩) 1 cap) m) (hm : m ≠ 0) (hz : z ≠ 0) : SWd (w.setCell ⟨g, 1, none⟩ (.int .u64 (z : Int))) b (.slice (some ⟨g, 0, none⟩) 1 cap) z ∧ Fr (· = g) w (w.setCell ⟨g, 1, none⟩ (.int .u64 (z : Int))) := by
  unfold SWd at *
  rw [wl_s hm] at h
  rw [wl_s hz]
  exact h.set LTwd_ok (i := 0) (j := 1) (x := (0, m)) (x' := (0, z)) rfl (by decide) rfl
theorem SWd.form {w : World} {b m : Nat} {v : Value} (h : SWd w b v m) (hm : m ≠ 0) : ∃ g cap, v = .slice (some ⟨g, 0, none⟩) 1 cap ∧ b ≤ g ∧ g < w.heap.size := by
  unfold SWd at h
  rw [wl_s hm] at h
  obtain ⟨na, cap, e, _, hc, _⟩ := h.form LTwd_ok
  rcases hc with ⟨_, _, c⟩ | ⟨g, rfl, h1, h2⟩
  · cases c
  · exact ⟨g, cap, e, h1, h2⟩
theorem SWd.fr {w w' : World} {b m : Nat} {v : Value} (h : SWd w b v m) {S : Nat → Prop} (k : Fr S w w') (hS : ∀ g, v.ownBlock = some g → ¬ S g) : SWd w' b v m := AX.fr h k (fun g _ _ e s => hS g e s)
theorem SWd.kpt {w w' : World} {b m : Nat} {v : Value} (h : SWd w b v m) (k : Kp w w') : SWd w' b v m := AX.kp h k
theorem or_ne0 (a : Nat) (b : Nat) : a ||| 2 ^ b ≠ 0 := fun e => by
  have h : (a ||| 2 ^ b).testBit b = true := by rw [Nat.testBit_or, Nat.testBit_two_pow]; simp
  rw [e] at h
  simp at h
theorem or_l64 {a b : Nat} (ha : a < 18446744073709551616) (hb : b < 18446744073709551616) : a ||| b < 18446744073709551616 := Nat.or_lt_two_pow (n := 64) ha hb

set_option maxHeartbeats 4000000 in
theorem iwith_1 (g cap m f : Nat) (hf : f < 64) (hm : m ≠ 0) (hl : m < 18446744073709551616) {w : World} {b : Nat} (h : SWd w b (.slice (some ⟨g, 0, none⟩) 1 cap) m) :
    Calls Tryd.prog 28 #[.slice (some ⟨g, 0, none⟩) 1 cap, .int .i64 (f : Int)] w fun e w' => e = .returned (.slice (some ⟨g, 0, none⟩) 1 cap) ∧ SWd w' b (.slice (some ⟨g, 0, none⟩) 1 cap) (m ||| 2 ^ f) ∧ Fr (· = g) w w' := by
  obtain ⟨h1, h2, c0, c1⟩ := h.cells hm
  have cs := ifind_1 g cap m f hf w h1 c0 c1
  have cb := fun w => ibit_any f hf w
  have hq := pw64l hf
  obtain ⟨q, eq⟩ : ∃ q, q = 2 ^ f := ⟨_, rfl⟩
  obtain ⟨z, ez⟩ : ∃ z, z = m ||| 2 ^ f := ⟨_, rfl⟩
  have a2 : bits .or .u64 (m : Int) (q : Int) = (z : Int) := by rw [ez, eq]; exact u64_or_nat m _ hl hq
  have hz : z ≠ 0 := by rw [ez]; exact or_ne0 m f
  rw [← ez]
  rw [← eq] at cb
  have HH : Hid (SWd w b (.slice (some ⟨g, 0, none⟩) 1 cap) m ∧ m ≠ 0 ∧ z ≠ 0) := ⟨h, hm, hz⟩
  clear h hm hz c0 c1 ez eq hq hl
  go_enter Tryd.func28, Tryd.ntmps28
  go_wp2_with fail
  with_reducible refine cs.mono ?_
  rintro e w1 ⟨rfl, k1⟩
  have s1 := HH.out.1.kpt k1
  have K1 : Hid (Kp w w1) := k1
  obtain ⟨_, _, d0, d1⟩ := s1.cells HH.out.2.1
  have f1 := s1.frz 1
  clear k1 h1 h2
  go_wp2_with fail
  refine wp_region_last 10 mixed (by kernel_rfl) (by kernel_rfl) ?_
  dsimp only [List.take]
  iterate 10 (quiet_step (first | (go_at_call 49; refine (cb _).mono ?_; rintro e w' ⟨rfl, rfl⟩; exact ⟨rfl, _, rfl⟩)))
  refine wpQuiet_nil ?_
  rintro _ ⟨nq, rfl⟩
  have KN := (Kp.refl w1).drewN nq
  obtain ⟨H1, H2⟩ := (s1.kpt KN).put HH.out.2.1 HH.out.2.2
  have F : Hid (SWd ((w1.drewN nq).setCell ⟨g, 1, none⟩ (.int .u64 (z : Int))) b (.slice (some ⟨g, 0, none⟩) 1 cap) z ∧ Fr (· = g) w ((w1.drewN nq).setCell ⟨g, 1, none⟩ (.int .u64 (z : Int)))) := ⟨H1, (Kp.fr _ K1.out).trans ((KN.fr _).trans H2)⟩
  have g1 : (w1.drewN nq).cell? ⟨g, 1, none⟩ = some (.int .u64 (m : Int)) := d1
  have g2 : (w1.drewN nq).frozen? ⟨g, 1, none⟩ = false := f1
  clear s1 HH H1 H2 KN d0 d1 f1
  refine wpOps_one rfl rfl (wp_store_w (n := (z : Int)) rfl rfl rfl rfl g1 g2 ?_)
  refine wpOps_nil ?_
  clear g1 g2
  go_wp2_with fail
  go_ret
  exact ⟨rfl, F.out⟩

end Go.Proofs.YtpjlmmiceiionaaDoor
