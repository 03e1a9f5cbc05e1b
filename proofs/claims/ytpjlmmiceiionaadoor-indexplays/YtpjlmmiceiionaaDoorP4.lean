/- phys.Mem: keep; Put of a piece of a page. -/
import Derived.Test.YtpjlmmiceiionaaDoorJ16
namespace Go.Proofs.YtpjlmmiceiionaaDoor
open Go.RowKit Go.Maps
set_option maxRecDepth 10000

set_option maxHeartbeats 2000000 in
theorem clone_at (b o n cap : Nat) (f : Nat → Nat) (w : World) (H : BS w b o n f) (hn : n ≤ 1000000) :
    Calls Tryd.prog 55 #[.slice (some ⟨b, o, none⟩) n cap] w fun e w' => ∃ g cap', e = .returned (.slice (some ⟨g, 0, none⟩) n cap') ∧ OP w' w.heap.size g n cap' f ∧ Kp w w' := by
  obtain ⟨g, cap', W', h1, h2, h3⟩ := copy_any w b o n cap f H.lt H.cells H.byte hn
  have H2 : Hid _ := h2
  have H3 : Hid _ := h3
  clear H h2 h3
  have hq : (Tryd.prog.underlying 40) = some (.slice 5) := Tryd.underlying40
  have h0 : ∀ w, (binOp .eql 40 (.slice (some ⟨b, o, none⟩) n cap) (.slice none 0 0)).run Tryd.prog w = .ok (.bool false) w := fun w => by
    simp [binOp, run_equal_slice_nil w 40 5 _ n cap hq]
  go_enter Tryd.func55, Tryd.ntmps55
  repeat' (first | ((with_reducible refine wp_append_of h1 (.tmp 5) (.tmp 6) ?_ ?_ ?_ ?_ ?_); rfl; rfl; rfl; rfl) | go_values | go_skip | go_guarded | go_step | go_upon | go_back | (simp only []) | (go_values <;> (try go_simp)) | (go_ite <;> go_prune <;> (try go_simp)))
  go_ret
  exact ⟨g, cap', rfl, H2.out, H3.out⟩

set_option maxHeartbeats 2000000 in
set_option maxRecDepth 10000 in
theorem put_at (b o n cap p s v : Nat) (f : Nat → Nat) (w : World) (H : BS w b o n f) (hn : n ≤ 1000000) (hs : s ≤ 8) (hp : p + s ≤ n) (hv : v < 18446744073709551616) (hc : chk n p s = 0) :
    Calls Tryd.prog 35 #[.slice (some ⟨b, o, none⟩) n cap, .int .i64 (p : Int), .int .i64 (s : Int), .int .u64 (v : Int)] w fun e w' => ∃ g cap', e = .returned (.tuple #[.slice (some ⟨g, 0, none⟩) n cap', .int .i64 0]) ∧ OP w' w.heap.size g n cap' (putF f p s v) ∧ Kp w w' := by
  have c1 := fun w => check_any n p s w (by omega) (by omega) (by omega) (by omega)
  rw [hc] at c1
  have c2 := clone_at b o n cap f w H hn
  have z1 : (p : Int) + s ≤ n := by omega
  have z3 : (n : Int) ≤ 1000000 := by omega
  have z4 : (s : Int) ≤ 8 := by omega
  have z5 : (v : Int) < 18446744073709551616 := by omega
  clear H hc hv
  go_enter Tryd.func35, Tryd.ntmps35
  go_wp2_with (go_at_call 54; with_reducible refine (c1 _).mono ?_; rintro e w' ⟨rfl, rfl⟩)
  with_reducible refine c2.mono ?_
  rintro e w1 ⟨g, cap', rfl, O1, K1⟩
  have HO : Hid _ := O1
  have HK : Hid _ := K1
  clear O1 K1 c2
  go_wp2_with fail
  go_loopg [24] s (fun gg v24 wr => ∃ k : Nat, v24 = .int .i64 k ∧ k ≤ s ∧ s - k ≤ gg ∧ Aside (OP wr w'.heap.size g n cap' (putF f p k v)) ∧ Aside (Kp w' wr))
  case atStart => exact ⟨0, rfl, by omega, by omega, by rw [putF_zero]; exact HO.out, HK.out⟩
  case round =>
    clear HO HK
    obtain ⟨k, rfl, hk, hg, HO, HK⟩ := hrel
    by_cases hlt : k < s
    · have y1 : (k : Int) < s := by omega
      have c2 := HO.out.bs.cell (p + k) (by omega)
      have c3 := HO.out.bs.frz (p + k) (by omega)
      rw [Nat.zero_add] at c2 c3
      have q := shr_byte v k
      have O2 := HO.out.set (p + k) (v / 2 ^ (8 * k) % 256) (by omega)
      rw [putF_succ] at O2
      have K2 := HK.out.set ⟨g, p + k, none⟩ (.int .u8 ((v / 2 ^ (8 * k) % 256 : Nat) : Int)) HO.out.facts.1
      generalize v / 2 ^ (8 * k) % 256 = d at *
      have A2 : Aside _ := O2
      have B2 : Aside _ := K2
      clear O2 K2
      go_wp2
      go_roundg (s - (k + 1))
      case measure => omega
      case rel => exact ⟨k + 1, by go_num, by omega, by omega, A2, B2⟩
    · have e : k = s := by omega
      subst e
      go_wp2
      go_ret2
      exact ⟨g, cap', rfl, HO.out, HK.out⟩

theorem load_page {w : World} {b : Nat} {f : Nat → Nat} (h : PG w b f) : (Instr.loadAt 88 (.pointer (some ⟨b, 0, none⟩))).run Tryd.prog w = .ok (.agg (bytesOf f 4096).toArray) w := by
  have := run_loadVar_row (P := Tryd.prog) w b 88 88 _ _ _ h Tryd.underlying88 rfl (by rw [List.size_toArray, bytesOf_len]; kernel_rfl)
  simp only [Instr.loadAt, Instr.sureAddr, Sem.run_bind, Sem.run_pure, Result.andThen_ok, this]
theorem build_page (w : World) : (Instr.build 88 #[]).run Tryd.prog w = .ok (.agg (bytesOf z0 4096).toArray) w := by kernel_rfl
theorem alloc_page (w : World) (v : Value) : (Instr.alloc 88 true v).run Tryd.prog w = .ok (.pointer (some ⟨w.heap.size, 0, none⟩)) (w.alloc (.cells (bytesOf z0 4096).toArray 88)) := by
  unfold Instr.alloc
  rw [Sem.run_bind, zero_page]
  rfl

theorem eqGuard_page (x y : Operand) (A B : Array Value) (w : World) : (eqGuard .eql 88 x y (.agg A) (.agg B)).run Tryd.prog w = .ok () w := run_eqGuard_agg w .eql 88 x y A B (by kernel_rfl)

section
variable {P : Program} {w : World} {ops : Array Oper} {rest : List Oper} {o : Oper} {a : Act} {Q : Exit → Act → World → Prop}
theorem wpList_build_of {v : Value} (t : TypeId) (hr : (Instr.build t #[]).run P w = .ok v w) (hg : o.guard = none) (ho : o.op = .build t #[]) (h : wpList P ops Q rest (a.put o.dst v) w) : wpList P ops Q (o :: rest) a w := by
  refine wpList_plain hg fun K hK => ?_
  unfold Oper.wp execOp
  simp only [ho, List.map_toArray, List.map_nil, Sem.run_bind, hr, Result.andThen_ok, Sem.run_pure]
  exact hK _ _ h
theorem wpList_load_of {v va : Value} (t : TypeId) (hr : (Instr.loadAt t va).run P w = .ok v w) (x : Operand) (hg : o.guard = none) (ho : o.op = .load t x) (hx : a.eval x = va) (h : wpList P ops Q rest (a.put o.dst v) w) : wpList P ops Q (o :: rest) a w := by
  refine wpList_plain hg fun K hK => ?_
  unfold Oper.wp execOp
  simp only [ho, hx, Sem.run_bind, hr, Result.andThen_ok, Sem.run_pure]
  exact hK _ _ h
theorem wpList_eql_of {v vx vy : Value} (t : TypeId) (hr : (binOp .eql t vx vy).run P w = .ok v w) (x y : Operand) (ty : TypeId) (hg : o.guard = none) (ho : o.op = .binOp .eql t x y ty) (hx : a.eval x = vx) (hy : a.eval y = vy) (hq : (eqGuard .eql t x y vx vy).run P w = .ok () w)
    (h : wpList P ops Q rest (a.put o.dst v) w) : wpList P ops Q (o :: rest) a w := by
  refine wpList_plain hg fun K hK => ?_
  unfold Oper.wp execOp
  simp only [ho, hx, hy, Sem.run_bind, hq, hr, Result.andThen_ok, Sem.run_pure]
  exact hK _ _ h
theorem wpList_alloc_of {v : Value} {w' : World} (t : TypeId) (hr : (Instr.alloc t true (.tuple #[])).run P w = .ok v w') (hg : o.guard = none) (ho : o.op = .alloc t) (h : wpList P ops Q rest (a.put o.dst v) w') : wpList P ops Q (o :: rest) a w := by
  refine wpList_plain hg fun K hK => ?_
  unfold Oper.wp execOp
  simp only [ho, Sem.run_bind, hr, Result.andThen_ok, Sem.run_pure]
  exact hK _ _ h
theorem wpList_update_of {vm vk vx : Value} {w' : World} (t : TypeId) (hr : (Instr.mapUpdate t vm vk vx).run P w = .ok () w') (m k x : Operand) (hg : o.guard = none) (ho : o.op = .mapUpdate t m k x) (hm : a.eval m = vm) (hk : a.eval k = vk) (hx : a.eval x = vx) (h : wpList P ops Q rest (a.put o.dst undef) w') : wpList P ops Q (o :: rest) a w := by
  refine wpList_plain hg fun K hK => ?_
  unfold Oper.wp execOp
  simp only [ho, hm, hk, hx, Sem.run_bind, hr, Result.andThen_ok, Sem.run_pure]
  exact hK _ _ h
theorem wpList_copy_of {v v1 v2 : Value} {w' : World} {t1 t2 : TypeId} (hr : ∀ ty, (Builtin.copy_ #[t1, t2] ty #[v1, v2]).run P w = .ok v w') (x y : Operand)
    (hg : o.guard = none) (ho : o.op = .call { callee := .builtin .copy, args := #[x, y], argTypes := #[t1, t2] }) (hx : a.eval x = v1) (hy : a.eval y = v2) (h : wpList P ops Q rest (a.put o.dst v) w') : wpList P ops Q (o :: rest) a w := by
  refine wpList_plain hg fun K hK => ?_
  unfold Oper.wp
  simp [execOp, ho, resolve, invoke, builtin, hx, hy, hr, Result.andThen]
  exact hK _ _ h
end

set_option maxHeartbeats 1000000 in
theorem keep_low {w : World} {p bm b N : Nat} {g : Int → Option Nat} {f : Nat → Nat} (x : Nat) (c2 : w.cell? ⟨p, 2, none⟩ = some (.map (some bm))) (hm : MP w bm N g) (pg : PG w b f) (hx : x < N) (hN : N ≤ 1048576) :
    Calls Tryd.prog 36 #[.pointer (some ⟨p, 0, none⟩), .int .i64 (x : Int), .pointer (some ⟨b, 0, none⟩)] w fun e w' => e = .returned (.tuple #[]) ∧ MP w' bm N (if alike f z0 4096 then without g x else withp g x b) ∧ Fr (· = bm) w w' := by
  have l1 := load_page pg
  have l2 := build_page w
  have l3 := eql_pages f z0 w
  cases e : alike f z0 4096
  · rw [e] at l3
    obtain ⟨w2, r1, r2, r3⟩ := hm.store (x : Int) b (WalkArith.wf_i64 (by omega)) (by omega) (by omega) (by unfold maxLen; omega)
    have R2 : Hid (MP w2 bm N (withp g x b)) := r2
    have R3 : Hid (Fr (· = bm) w w2) := r3
    clear hm pg r2 r3
    generalize (bytesOf f 4096).toArray = A at *
    generalize (bytesOf z0 4096).toArray = B at *
    go_enter Tryd.func36, Tryd.ntmps36
    go_wp2_with (first | (refine wpList_load_of 88 l1 _ rfl rfl rfl ?_) | (refine wpList_build_of 88 l2 rfl rfl ?_) | (refine wpList_eql_of 88 l3 _ _ _ rfl rfl rfl rfl (eqGuard_page _ _ _ _ _) ?_) | (refine wpList_update_of 84 r1 _ _ _ rfl rfl rfl rfl rfl ?_))
    go_end0
    exact ⟨rfl, R2.out, R3.out⟩
  · rw [e] at l3
    obtain ⟨w2, r1, r2, r3⟩ := hm.drop (x : Int) (WalkArith.wf_i64 (by omega)) 0
    have R2 : Hid (MP w2 bm N (without g x)) := r2
    have R3 : Hid (Fr (· = bm) w w2) := r3
    clear hm pg r2 r3
    generalize (bytesOf f 4096).toArray = A at *
    generalize (bytesOf z0 4096).toArray = B at *
    go_enter Tryd.func36, Tryd.ntmps36
    go_wp2_with (first | (refine wpList_load_of 88 l1 _ rfl rfl rfl ?_) | (refine wpList_build_of 88 l2 rfl rfl ?_) | (refine wpList_eql_of 88 l3 _ _ _ rfl rfl rfl rfl (eqGuard_page _ _ _ _ _) ?_))
    refine bodyPost_ret (results_none rfl _ _ _) rfl ?_
    exact ⟨rfl, R2.out, R3.out⟩

/-- Frame x's bytes are f. -/
def putFr (F : Nat → Nat → Nat) (x : Nat) (f : Nat → Nat) : Nat → Nat → Nat := fun y => if y = x then f else F y
theorem putFr_same (F : Nat → Nat → Nat) (x : Nat) (f : Nat → Nat) : putFr F x f x = f := if_pos rfl
theorem putFr_other (F : Nat → Nat → Nat) (x y : Nat) (f : Nat → Nat) (h : y ≠ x) : putFr F x f y = F y := if_neg h

theorem PMat.renew {w w1 w2 : World} {S T : Nat → Prop} {p bm : Nat} {g : Int → Option Nat} {N ops : Nat} {F : Nat → Nat → Nat} (h : PMat w S p bm g N ops F) (x : Nat) (hx : x < N) (b : Nat) (f : Nat → Nat) (hf : Bytes f)
    (k1 : Fr T w w1) (hT : ∀ k, k < w.heap.size → T k → g x = .some k) (pg : PG w1 b f) (hb : g x = .some b ∨ w.heap.size ≤ b)
    (m2 : MP w2 bm N (if alike f z0 4096 then without g x else withp g x b)) (k2 : Fr (· = bm) w1 w2) :
    PMat w2 (fun k => S k ∨ k = b) p bm (if alike f z0 4096 then without g x else withp g x b) N ops (putFr F x f) ∧ Fr S w w2 := by
  have hbp : b ≠ p ∧ b ≠ bm := by
    rcases hb with hb | hb
    · exact ⟨(h.page _ _ hb).2.1, (h.page _ _ hb).2.2.1⟩
    · exact ⟨fun e => by have := h.own p h.sp; omega, fun e => by have := h.own bm h.sm; omega⟩
  have hTp : ¬ T p := fun t => (h.page _ _ (hT p (h.own p h.sp) t)).2.1 rfl
  have kp : ∀ k, k < w.heap.size → ¬ T k → k ≠ bm → w2.heap[k]? = w.heap[k]? := fun k hk ht hne => (k2.block k (Nat.lt_of_lt_of_le hk k1.size) hne).trans (k1.block k hk ht)
  have frS : Fr S w w2 := ⟨k2.os.trans k1.os, k2.tape.trans k1.tape, k2.output.trans k1.output, Nat.le_trans k1.size k2.size, fun k hk hS => kp k hk (fun t => hS (h.page _ _ (hT k hk t)).1) (fun e => hS (e ▸ h.sm))⟩
  have pg2 : PG w2 b f := pg.fr k2 hbp.2
  -- a page of another frame
  have other : ∀ y c, y ≠ (x : Int) → g y = .some c → (S c ∨ c = b) ∧ c ≠ p ∧ c ≠ bm ∧ PG w2 c (putFr F x f y.toNat) := fun y c hy hc => by
    obtain ⟨q1, q2, q3, q4⟩ := h.page y c hc
    refine ⟨.inl q1, q2, q3, ?_⟩
    have hd := h.map.dom y c hc
    rw [putFr_other _ _ _ _ (by omega)]
    exact (kp c (h.own c q1) (fun t => hy (h.inj y x c hc (hT c (h.own c q1) t))) q3).trans q4
  refine ⟨⟨fun k hk => ?_, .inl h.sp, .inl h.sm, h.ne, (kp p (h.own p h.sp) hTp (fun e => h.ne e.symm)).trans h.row, m2, fun y c hy => ?_, fun y z c hy hz => ?_, fun y hy i hi => ?_, fun y c hy => ?_, h.n1, h.n2, fun y => ?_⟩, frS⟩
  · rcases hk with hk | rfl
    · exact Nat.lt_of_lt_of_le (h.own k hk) frS.size
    · exact pg2.lt
  · by_cases e : y = (x : Int)
    · subst e
      by_cases ea : alike f z0 4096 = true
      · rw [if_pos ea] at hy; unfold without at hy; rw [if_pos rfl] at hy; cases hy
      · rw [if_neg ea] at hy; unfold withp at hy; rw [if_pos rfl] at hy; cases hy
        refine ⟨.inr rfl, hbp.1, hbp.2, ?_⟩
        rw [show ((x : Int)).toNat = x from rfl, putFr_same]
        exact pg2
    · refine other y c e ?_
      split at hy
      · unfold without at hy; rwa [if_neg e] at hy
      · unfold withp at hy; rwa [if_neg e] at hy
  · have q : ∀ y, (if alike f z0 4096 then without g x else withp g x b) y = .some c → (y = (x : Int) ∧ c = b) ∨ (y ≠ (x : Int) ∧ g y = .some c) := fun y hy => by
      by_cases e : y = (x : Int)
      · subst e
        split at hy
        · unfold without at hy; rw [if_pos rfl] at hy; cases hy
        · unfold withp at hy; rw [if_pos rfl] at hy; cases hy; exact .inl ⟨rfl, rfl⟩
      · split at hy
        · unfold without at hy; rw [if_neg e] at hy; exact .inr ⟨e, hy⟩
        · unfold withp at hy; rw [if_neg e] at hy; exact .inr ⟨e, hy⟩
    have no : ∀ y, y ≠ (x : Int) → g y = .some b → False := fun y hy hb' => by
      rcases hb with hb | hb
      · exact hy (h.inj y x b hb' hb)
      · have := h.own b (h.page y b hb').1; omega
    rcases q y hy with ⟨e1, e2⟩ | ⟨e1, e2⟩ <;> rcases q z hz with ⟨d1, d2⟩ | ⟨d1, d2⟩
    · rw [e1, d1]
    · exact absurd (e2 ▸ d2) (no z d1)
    · exact absurd (d2 ▸ e2) (no y e1)
    · exact h.inj y z c e2 d2
  · by_cases e : (y : Int) = (x : Int)
    · have e' : y = x := by omega
      subst e'
      rw [putFr_same]
      split at hy
      · rename_i ea; exact (alike_iff f z0 4096).1 ea i hi
      · unfold withp at hy; rw [if_pos rfl] at hy; cases hy
    · rw [putFr_other _ _ _ _ (by omega)]
      refine h.none y ?_ i hi
      split at hy
      · unfold without at hy; rwa [if_neg e] at hy
      · unfold withp at hy; rwa [if_neg e] at hy
  · by_cases e : y = (x : Int)
    · subst e
      rw [show ((x : Int)).toNat = x from rfl, putFr_same]
      split at hy
      · unfold without at hy; rw [if_pos rfl] at hy; cases hy
      · rename_i ea
        have : ¬ ∀ i, i < 4096 → f i = z0 i := fun hh => ea (alike_of hh)
        exact Classical.byContradiction fun hh => this fun i hi => Classical.byContradiction fun hn => hh ⟨i, hi, hn⟩
    · have hg : g y = .some c := by
        split at hy
        · unfold without at hy; rwa [if_neg e] at hy
        · unfold withp at hy; rwa [if_neg e] at hy
      have hd := h.map.dom y c hg
      rw [putFr_other _ _ _ _ (by omega)]
      exact h.some y c hg
  · unfold putFr
    split
    · exact hf
    · exact h.byte y

end Go.Proofs.YtpjlmmiceiionaaDoor
