/- buddy.Buddy: Runs. -/
import Derived.Test.YtlclpnaaaiimaaaDoorUA
import Derived.Test.YtlclpnaaaiimaaaDoorUS
namespace Go.Proofs.YtlclpnaaaiimaaaDoor
open Go.RowKit

/-- An append whose run is known. -/
theorem wp_append_of {P : Program} {w : World} {o : Oper} {a : Act} {K : Act → World → Prop} {Q : Exit → Act → World → Prop} {t ty : TypeId} {vs vx v' : Value} {w' : World}
    (hr : (Builtin.append_ #[t, t] ty #[vs, vx]).run P w = .ok v' w') (s x : Operand) (ho : o.op = .call { callee := .builtin .append, args := #[s, x], argTypes := #[t, t] }) (hty : o.type = ty) (hs : a.eval s = vs) (hx : a.eval x = vx)
    (h : K (a.put o.dst v') w') : o.wp P a w K Q := by
  subst hty
  unfold Oper.wp execOp
  simp only [ho, resolve, invoke, builtin, Sem.run_bind, Sem.run_pure, Result.andThen_ok, List.map_toArray, List.map_cons, List.map_nil, hs, hx, hr]
  exact h
/-- A run as cells. -/
def encR (x : Nat × Nat) : List Value := [.int .i64 (x.1 : Int), .int .i64 (x.2 : Int)]
theorem encR_ok : Enc encR 2 := ⟨fun _ => rfl, fun x u hu => by
  rcases List.mem_cons.1 hu with e | e
  · subst e; rfl
  · rcases List.mem_cons.1 e with e | e
    · subst e; rfl
    · exact absurd e (by simp), by omega⟩
theorem info_run : ∃ i, Tryd.prog.info? 34 = some i ∧ i.zero = some (.agg #[.int .i64 0, .int .i64 0]) ∧ i.size = 2 ∧ i.bytes = 16 := by
  have h : (Tryd.prog.info? 34).map (fun i => (i.zero, i.size, i.bytes)) = some (some (.agg #[.int .i64 0, .int .i64 0]), 2, 16) := by kernel_rfl
  obtain ⟨i, hi, e⟩ := Option.map_eq_some_iff.1 h
  simp only [Prod.mk.injEq] at e
  exact ⟨i, hi, e.1, e.2.1, e.2.2⟩
/-- v is a list of runs in a block at or above b. -/
structure RL (w : World) (b : Nat) (v : Value) (L : List (Nat × Nat)) : Prop where
  ol : OL encR 34 2 w v L
  up : ∀ g, v.ownBlock = some g → b ≤ g ∧ g < w.heap.size
theorem RL.nil (w : World) (b : Nat) : RL w b (.slice none 0 0) [] := ⟨OL.nil _ w, fun g h => by cases h⟩
theorem RL.fr {w w' : World} {b : Nat} {v : Value} {L : List (Nat × Nat)} (h : RL w b v L) {S : Nat → Prop} (k : Fr S w w') (hS : ∀ g, b ≤ g → g < w.heap.size → S g → False) : RL w' b v L :=
  ⟨h.ol.fr k (fun g hg s => by have := h.up g hg; exact hS g this.1 this.2 s), fun g hg => ⟨(h.up g hg).1, Nat.lt_of_lt_of_le (h.up g hg).2 k.size⟩⟩
theorem RL.kp {w w' : World} {b : Nat} {v : Value} {L : List (Nat × Nat)} (h : RL w b v L) (k : Kp w w') : RL w' b v L := h.fr (k.fr (fun _ => False)) (fun _ _ _ => id)
theorem RL.form {w : World} {b : Nat} {v : Value} {L : List (Nat × Nat)} (h : RL w b v L) : ∃ na cap, v = .slice na L.length cap ∧ L.length ≤ cap ∧ ∀ i x, L[i]? = some x → ∃ g, na = some ⟨g, 0, none⟩ ∧ g < w.heap.size ∧ b ≤ g ∧ w.cell? ⟨g, i * 2, none⟩ = some (.int .i64 (x.1 : Int)) ∧ w.cell? ⟨g, i * 2 + 1, none⟩ = some (.int .i64 (x.2 : Int)) := by
  obtain ⟨na, cap, e, l, hc⟩ := h.ol.form
  refine ⟨na, cap, e, l, fun i x hx => ?_⟩
  rcases hc with ⟨_, _, rfl⟩ | ⟨g, rfl, hg⟩
  · simp at hx
  · have h1 := h.ol
    rw [e] at h1
    have h0 := OL.cell encR_ok h1 (i := i) (j := 0) (x := x) (u := .int .i64 (x.1 : Int)) hx rfl
    have h2 := OL.cell encR_ok h1 (i := i) (j := 1) (x := x) (u := .int .i64 (x.2 : Int)) hx rfl
    exact ⟨g, rfl, hg, (h.up g (by rw [e]; rfl)).1, h0, h2⟩
/-- append(v, {x, o}). -/
theorem RL.snoc {w : World} {b : Nat} {v : Value} {L : List (Nat × Nat)} (h : RL w b v L) (hb : b ≤ w.heap.size) (x o : Nat) (hl : L.length ≤ 2000000) :
    ∃ v' w', (Builtin.append_ #[31, 31] 31 #[v, .slice (some ⟨w.heap.size, 0, none⟩) 1 1]).run Tryd.prog (w.alloc (.cells #[.int .i64 (x : Int), .int .i64 (o : Int)] 34)) = .ok v' w' ∧ RL w' b v' (L ++ [(x, o)]) ∧ (∀ W : World, W.heap.size ≤ b → Kp W w → Kp W w') ∧ Fr (fun g => v.ownBlock = some g) w w' := by
  obtain ⟨i0, hi, hz0, hz1, hz2⟩ := info_run
  obtain ⟨w1, h1⟩ : ∃ w1, w1 = w.alloc (.cells #[.int .i64 (x : Int), .int .i64 (o : Int)] 34) := ⟨_, rfl⟩
  have k1 : Kp w w1 := by rw [h1]; exact (Kp.refl w).alloc _
  have hr : w1.heap[w.heap.size]? = some (.cells #[.int .i64 (x : Int), .int .i64 (o : Int)] 34 (0, 0)) := by rw [h1]; exact heap_alloc_new w _
  have es : w1.heap.size = w.heap.size + 1 := by rw [h1]; simp
  obtain ⟨v', w', r1, r2, r3, r4⟩ := OL.append encR_ok (P := Tryd.prog) (t := 31) Tryd.underlying31 hi hz0 hz1 hz2 rfl (h.kp k1).ol [(x, o)] (some ⟨w.heap.size, 0, none⟩) 1 1 rfl (.inr ⟨w.heap.size, 0, rfl, fun j u hu => by
    rw [Nat.zero_add, cell_of_row w1 w.heap.size j _ _ _ hr]
    rw [← List.getElem?_toArray] at hu
    exact hu⟩) (by simp; omega) (by omega) 31
  have fr1 : Fr (fun g => v.ownBlock = some g) w w' := (k1.fr _).trans (Fr.grown r3 (fun g hg => hg))
  refine ⟨v', w', by rw [← h1]; exact r1, ⟨r2, fun g hg => ?_⟩, fun W hW kW => fr1.kp kW (fun g hg => Nat.le_trans hW (h.up g hg).1), fr1⟩
  have hlt : g < w'.heap.size := by
    obtain ⟨na, cap, e, _, hc⟩ := r2.form
    rcases hc with ⟨rfl, rfl, _⟩ | ⟨g', rfl, hg'⟩
    · rw [e] at hg; cases hg
    · rw [e] at hg; cases hg; exact hg'
  refine ⟨?_, hlt⟩
  rcases r4 with e | e
  · exact (h.up g (by rw [← e]; exact hg)).1
  · rw [hg] at e; cases e; omega

set_option maxHeartbeats 2000000 in
set_option maxRecDepth 100000 in
theorem runs_any {w : World} {U : Nat → Prop} {p lo hi : Nat} {F : Nat → Bool} (h : BF w U p lo hi F) :
    Calls Tryd.prog 20 #[.pointer (some ⟨p, 0, none⟩)] w fun e w' => (∃ v, e = .returned v ∧ RL w' w.heap.size v (rl F hi lo)) ∧ Kp w w' := by
  obtain ⟨c0, _, _⟩ := h.c
  have hh := h.hh
  have hle := h.le
  have HH : Hid (BF w U p lo hi F) := h
  have y0 : (hi : Int) ≤ 1048576 := by omega
  clear h
  go_enter Tryd.func20, Tryd.ntmps20
  go_wp2_with fail
  clear c0
  go_loopg [3, 4] (hi + 1) (fun g v3 v4 wr => ∃ (f : Nat) (L : List (Nat × Nat)), v4 = .int .i64 (f : Int) ∧ lo ≤ f ∧ f ≤ hi ∧ hi + 1 - f ≤ g ∧ Hid (RL wr w.heap.size v3 L ∧ L ++ rl F hi f = rl F hi lo ∧ L.length ≤ f ∧ Cut F f) ∧ Hid (Kp w wr))
  case atStart => exact ⟨lo, [], rfl, by omega, by omega, by omega, ⟨RL.nil _ _, rfl, Nat.zero_le _, cut_lo HH.out.dom⟩, Kp.refl w⟩
  case round =>
    obtain ⟨f, L, rfl, f1, f2, hg, HL, HK⟩ := hrel
    have B := HH.out.kp HK.out
    have c1 := B.c.2.1
    have y1 : (f : Int) ≤ hi := by omega
    by_cases e : f < hi
    · have z1 : (f : Int) < hi := by omega
      cases hF : F f
      · have cA := around_out B f (by omega) hF
        have c4 : ∀ w, Calls Tryd.prog 25 #[.int .i64 10] w fun e w' => e = .returned (.bool false) ∧ w' = w := fun w => isOrder_any 10 w
        have HR : Hid (rl F hi f = rl F hi (f + 1) ∧ Cut F (f + 1)) := ⟨rl_off e hF, cut_off hF⟩
        clear hF B
        go_wp2_with (first | (go_at_call 32; go_must (with_reducible refine cA.mono ?_); rintro e w1 ⟨rfl, D1⟩) | (go_at_call 25; go_must (with_reducible refine (c4 _).mono ?_); rintro e w' ⟨rfl, rfl⟩))
        have HK2 : Hid (Kp w w') := HK.out.trans D1.kp
        have HL2 : Hid (RL w' w.heap.size u3 L ∧ L ++ rl F hi (f + 1) = rl F hi lo ∧ L.length ≤ f + 1 ∧ Cut F (f + 1)) := ⟨HL.out.1.kp D1.kp, by rw [← HR.out.1]; exact HL.out.2.1, by have := HL.out.2.2.1; omega, HR.out.2⟩
        clear HL HK HR D1
        go_roundg (hi + 1 - (f + 1))
        case measure => omega
        case rel => exact ⟨f + 1, L, by go_num, by omega, by omega, by omega, HL2, HK2⟩
      · obtain ⟨o, o1, o2⟩ := run_of hF
        have cA := around_in B f o (by omega) o1 o2
        have c4 := fun w => isOrder_any (o : Int) w
        rw [decide_eq_true (by omega), decide_eq_true (by omega), Bool.true_and] at c4
        have hr := rl_on e hF
        rw [ord_of o1 o2] at hr
        have hhi := (o2.1.range B.dom).2
        rw [HL.out.2.2.2.start o1 o2] at hhi
        have hp := Nat.two_pow_pos o
        have HR : Hid (rl F hi f = (f, o) :: rl F hi (f + 2 ^ o) ∧ Cut F (f + 2 ^ o) ∧ f + 2 ^ o ≤ hi ∧ 0 < 2 ^ o) := ⟨hr, HL.out.2.2.2.on o1 o2, hhi, hp⟩
        obtain ⟨e1, e2⟩ := pow_wrap (show o < 10 by omega)
        have z2 : (o : Int) < 10 := by omega
        clear hF B hr hhi hp o1 o2
        generalize 2 ^ o = s at *
        go_wp2_with fail
        with_reducible refine cA.mono ?_
        rintro e w1 ⟨rfl, D1⟩
        have K1 : Kp w w1 := HK.out.trans D1.kp
        obtain ⟨v', w2, r1, r2, r3, _⟩ := (HL.out.1.kp D1.kp).snoc K1.size f o (by have := HL.out.2.2.1; omega)
        have HK2 : Hid (Kp w w2) := r3 w (Nat.le_refl _) K1
        have HL2 : Hid (RL w2 w.heap.size v' (L ++ [(f, o)]) ∧ (L ++ [(f, o)]) ++ rl F hi (f + s) = rl F hi lo ∧ (L ++ [(f, o)]).length ≤ f + s ∧ Cut F (f + s)) := ⟨r2, by
          rw [List.append_assoc, List.singleton_append, ← HR.out.1]; exact HL.out.2.1, by
          rw [List.length_append]; have := HL.out.2.2.1; have := HR.out.2.2.2; simp; omega, HR.out.2.1⟩
        have HS : Hid (f + s ≤ hi ∧ 0 < s) := HR.out.2.2
        clear HL HK HR D1 K1 r2 r3 cA
        repeat' (first | (go_at_call 25; with_reducible refine (c4 _).mono ?_; rintro e w' ⟨rfl, rfl⟩) | ((with_reducible refine wp_append_of r1 (.tmp 24) (.tmp 28) ?_ ?_ ?_ ?_ ?_); rfl; rfl; rfl; rfl) | go_values | go_skip | go_guarded | go_step | go_upon | go_back | (simp only []) | (go_values <;> (try go_simp)) | (go_ite <;> go_prune <;> (try go_simp)))
        go_roundg (hi + 1 - (f + s))
        case measure => have := HS.out; omega
        case rel => exact ⟨f + s, _, by go_num, by omega, by have := HS.out; omega, by omega, HL2, HK2⟩
    · have ef : f = hi := by omega
      subst ef
      have HL2 : Hid (RL wr w.heap.size u3 (rl F f lo)) := by
        have h2 := HL.out.2.1
        rw [rl_end (Nat.le_refl _), List.append_nil] at h2
        show RL wr w.heap.size u3 (rl F f lo)
        rw [← h2]; exact HL.out.1
      clear HL
      go_wp2
      go_ret
      exact ⟨⟨_, rfl, HL2.out⟩, HK.out⟩
end Go.Proofs.YtlclpnaaaiimaaaDoor
