/- Joined: SB, R20, R21, R22, R23. -/
import Derived.Test.YtanlcmdnhhdhaaaGreatDoorJ00
import Derived.Deep.RegionLaw
import Derived.Test.YtanlcmdnhhdhaaaGreatDoorR19
/- An append in a region that draws its order. -/
namespace Go.Proofs.YtanlcmdnhhdhaaaGreatDoor
open Go.RowKit

/-- An append whose run is known, at a step of a region that draws its order. -/
theorem step_append_of {P : Program} {w : World} {ops : Array Oper} {o : Oper} {a : Act} {K : Act → World → Prop} {Q : Exit → Act → World → Prop} {E : Prop} {t ty : TypeId} {vs vx v' : Value} {w' : World}
    (hr : (Builtin.append_ #[t, t] ty #[vs, vx]).run P w = .ok v' w') (hgd : o.guard = none) (s x : Operand) (ho : o.op = .call { callee := .builtin .append, args := #[s, x], argTypes := #[t, t] }) (hty : o.type = ty) (hs : a.eval s = vs) (hx : a.eval x = vx)
    (h : K (a.put o.dst v') w') : if Region.wanted o (yielded ops a.tmps) = true then Oper.wp P o a w K Q else E := by
  rw [if_pos (by simp [Region.wanted, hgd])]
  exact wp_append_of hr s x ho hty hs hx h

end Go.Proofs.YtanlcmdnhhdhaaaGreatDoor

/- stage2: lists that a visitor makes; Leaves' visitor. -/
namespace Go.Proofs.YtanlcmdnhhdhaaaGreatDoor
open Go.RowKit
set_option maxRecDepth 10000

/-- A call of a function of two arguments, at a step of a region that draws its order. -/
theorem step_call2 {ops : Array Oper} {o : Oper} {a : Act} {w : World} {K : Act → World → Prop} {Q : Exit → Act → World → Prop} {E : Prop} {g : FuncId} {fn : Func} {y1 y2 : Operand} {ts : Array TypeId} {v1 v2 v : Value} {Φ : World → Prop}
    (hgd : o.guard = none) (ho : o.op = .call { callee := .value (.func g), args := #[y1, y2], argTypes := ts }) (hf : Tryz.prog.funcs[g]? = some fn) (hb : fn.body.isSome = true) (hn : ¬ fn.name = "runtime.NumGoroutine") (h1 : a.eval y1 = v1) (h2 : a.eval y2 = v2)
    (hc : Calls Tryz.prog g #[v1, v2] w fun e w' => e = .returned v ∧ Φ w') (h : ∀ w', Φ w' → K (a.put o.dst v) w') : if Region.wanted o (yielded ops a.tmps) = true then Oper.wp Tryz.prog o a w K Q else E := by
  rw [if_pos (by simp [Region.wanted, hgd])]
  obtain ⟨c, hb⟩ := Option.isSome_iff_exists.1 hb
  have e : (callFunc g #[v1, v2]).run Tryz.prog w = .ok (.enter g #[v1, v2]) w := by simp [callFunc, go_sem, hf, hb, hn]
  have e2 : execOp a.eval o = callFunc g #[a.eval y1, a.eval y2] := by
    obtain ⟨dst, op, type, pos, after, guard⟩ := o
    simp only at ho
    subst ho
    have e3 : execOp a.eval { dst, op := .call { callee := .value (.func g), args := #[y1, y2], argTypes := ts }, type, pos, after, guard } = callFunc g (#[] ++ #[y1, y2].map a.eval ++ #[]) := rfl
    rw [e3]
    simp
  unfold Oper.wp
  rw [e2, h1, h2, e]
  refine hc.mono ?_
  rintro e w' ⟨rfl, k⟩
  exact h w' k

/-- A list that grows, in a variable's block c. -/
structure IA {α : Type} (enc : α → List Value) (e : TypeId) (sz : Nat) (st : TypeId) (c : Nat) (w0 : World) (L : List α) (S : Nat → Prop) (w : World) : Prop where
  v : ∃ v, w.heap[c]? = some (.cells #[v] st (0, 0)) ∧ OL enc e sz w v L ∧ (∀ b, S b → b = c ∨ v.ownBlock = some b) ∧ ∀ b, v.ownBlock = some b → S b ∧ b ≠ c ∧ w0.heap.size ≤ b
  sc : S c
  lo : w0.heap.size ≤ c
  kp : Kp w0 w
section
variable {α : Type} {enc : α → List Value} {e : TypeId} {sz : Nat} {st : TypeId} {c : Nat} {w0 w w' : World} {L : List α} {S : Nat → Prop}
theorem IA.own (h : IA enc e sz st c w0 L S w) : ∀ b, S b → b < w.heap.size := by
  obtain ⟨v, h1, h2, h3, h4⟩ := h.v
  intro b hb
  rcases h3 b hb with rfl | hb
  · exact (Array.getElem?_eq_some_iff.1 h1).1
  · obtain ⟨na, cap, e, _, hc⟩ := h2.form
    rcases hc with ⟨rfl, rfl, _⟩ | ⟨g', rfl, hg'⟩
    · rw [e] at hb; cases hb
    · rw [e] at hb; cases hb; exact hg'
theorem IA.keep (h : IA enc e sz st c w0 L S w) (k : Kp w w') : IA enc e sz st c w0 L S w' := by
  obtain ⟨v, h1, h2, h3, h4⟩ := h.v
  exact ⟨⟨v, (k.block c (Array.getElem?_eq_some_iff.1 h1).1).trans h1, OL.fr h2 (k.fr (fun _ => False)) (fun _ _ => id), h3, h4⟩, h.sc, h.lo, h.kp.trans k⟩
/-- append(l, x), stored in the variable. -/
theorem IA.snoc (En : Enc enc sz) {P : Program} {i : TypeInfo} {z : Value} {bytes : Nat} (ht : P.underlying st = some (.slice e)) (hi : P.info? e = some i) (hz : i.zero = some z) (hsize : i.size = sz) (hby : i.bytes = bytes) (hzs : z.cells.size = sz) (hb : bytes ≤ 10000)
    (h : IA enc e sz st c w0 L S w) {v : Value} (hv : w.heap[c]? = some (.cells #[v] st (0, 0))) (x : α) (hl : L.length ≤ 4000000000) {u : World} (k : Kp w u) (r : Obj) (cs : Array Value) (hr : r = .cells cs e) (hcs : cs.toList = enc x) :
    ∃ na' n' cap' u', (Builtin.append_ #[st, st] st #[v, .slice (some ⟨u.heap.size, 0, none⟩) 1 1]).run P (u.alloc r) = .ok (.slice na' n' cap') u' ∧ u'.cell? ⟨c, 0, none⟩ = some v ∧ u'.frozen? ⟨c, 0, none⟩ = false ∧ ∃ S', IA enc e sz st c w0 (L ++ [x]) S' (u'.setCell ⟨c, 0, none⟩ (.slice na' n' cap')) ∧ Fr S u (u'.setCell ⟨c, 0, none⟩ (.slice na' n' cap')) ∧ Less S S' w := by
  have ow := h.own
  obtain ⟨v0, h1, h2, h3, h4⟩ := h.v
  rw [hv] at h1
  simp only [Option.some.injEq, Obj.cells.injEq, Array.mk.injEq, List.cons.injEq, and_true] at h1
  subst h1
  have ka : Kp w (u.alloc r) := k.alloc r
  have h2' : OL enc e sz (u.alloc r) v L := OL.fr h2 (ka.fr (fun _ => False)) (fun _ _ => id)
  have hrow : (u.alloc r).heap[u.heap.size]? = some (.cells cs e (0, 0)) := by rw [hr]; exact heap_alloc_new u _
  obtain ⟨v', u', r1, r2, r3, r4⟩ := OL.append En (P := P) (t := st) ht hi hz hsize hby hzs h2' [x] (some ⟨u.heap.size, 0, none⟩) 1 1 rfl (.inr ⟨u.heap.size, 0, rfl, fun j y hy => by
    rw [Nat.zero_add, cell_of_row _ _ j _ _ _ hrow]
    rw [List.flatMap_singleton, ← hcs] at hy
    rw [← Array.getElem?_toList]
    exact hy⟩) (by simp; omega) hb st
  have f1 : Fr (fun g => v.ownBlock = some g) (u.alloc r) u' := Fr.grown r3 (fun g hg => hg)
  have nc : ¬ v.ownBlock = some c := fun c0 => (h4 c c0).2.1 rfl
  have cl : c < w.heap.size := (Array.getElem?_eq_some_iff.1 hv).1
  have hv1 : (u.alloc r).heap[c]? = some (.cells #[v] st (0, 0)) := (ka.block c cl).trans hv
  have hv2 : u'.heap[c]? = some (.cells #[v] st (0, 0)) := (f1.block c (by have := ka.size; omega) nc).trans hv1
  have f2 : Fr S w u' := (ka.fr S).trans2 f1 (fun i hi c0 => (h4 i c0).1)
  have f3 : Fr S u u' := (((Kp.refl u).alloc r).fr S).trans2 f1 (fun i hi c0 => (h4 i c0).1)
  have us : u.heap.size < u'.heap.size := by
    have := f1.size
    simp at this
    omega
  have own' : ∀ b, v'.ownBlock = some b → b < u'.heap.size ∧ b ≠ c ∧ w0.heap.size ≤ b ∧ (S b ∨ w.heap.size ≤ b) := fun b hb' => by
    have hlt : b < u'.heap.size := by
      obtain ⟨na, cap, e, _, hc⟩ := r2.form
      rcases hc with ⟨rfl, rfl, _⟩ | ⟨g', rfl, hg'⟩
      · rw [e] at hb'; cases hb'
      · rw [e] at hb'; cases hb'; exact hg'
    have s0 := h.kp.size
    have s1 := k.size
    have s2 : (u.alloc r).heap.size = u.heap.size + 1 := by simp
    rcases r4 with e | e
    · rw [e] at hb'
      exact ⟨hlt, (h4 b hb').2.1, (h4 b hb').2.2, .inl (h4 b hb').1⟩
    · rw [hb'] at e
      cases e
      exact ⟨hlt, by omega, by omega, .inr (by omega)⟩
  obtain ⟨na', cap', ev, _⟩ := r2.form
  subst ev
  refine ⟨na', _, cap', u', r1, by rw [cell_of_row u' c 0 _ _ _ hv2]; rfl, frozen_of_row u' c 0 _ _ hv2, fun b => b = c ∨ (Value.slice na' (L ++ [x]).length cap').ownBlock = some b, ⟨⟨_, heap_setCell_same u' c 0 _ _ _ hv2, ?_, fun b => id, fun b hb' => ⟨.inr hb', (own' b hb').2.1, (own' b hb').2.2.1⟩⟩, .inl rfl, h.lo, ?_⟩, f3.set _ _ h.sc, ?_⟩
  · exact OL.fr r2 (S := (· = c)) ((Fr.refl _ u').set _ _ rfl) (fun g hg c0 => (own' g hg).2.1 c0)
  · exact (f2.set ⟨c, 0, none⟩ _ h.sc).kp h.kp (fun i hi => by
      rcases h3 i hi with rfl | c0
      · exact h.lo
      · exact (h4 i c0).2.2)
  · intro b hb'
    rcases hb' with rfl | hb'
    · exact .inl h.sc
    · exact (own' b hb').2.2.2
end
/-! ### Leaves -/
def encL (v : LV) : List Value := [.int .u64 (v.g : Int), .int .i64 (v.x : Int), .bool v.r, .bool v.q, .bool v.e, .int .i64 v.f, .int .i64 (v.l : Int)]
theorem encL_ok : Enc encL 7 where
  len _ := rfl
  one s u h := by
    simp only [encL, List.mem_cons, List.not_mem_nil, or_false] at h
    rcases h with rfl | rfl | rfl | rfl | rfl | rfl | rfl <;> rfl
  pos := by decide
def visL (page l : Nat) (d : DV) : List LV := if d.k = 1 then [] else [tellN page l d]
def IL7 (c : Nat) (w0 : World) : List LV → (Nat → Prop) → World → Prop := IA encL 58 7 70 c w0
theorem info_leaf : ∃ i : TypeInfo, Tryz.prog.info? 58 = some i ∧ i.zero = some (lvV lvZ) ∧ i.size = 7 ∧ i.bytes ≤ 10000 := ⟨_, rfl, rfl, rfl, by decide⟩
set_option maxHeartbeats 4000000 in
theorem leafs_one (c : Nat) (w0 w : World) (L : List LV) (S : Nat → Prop) (page l a : Nat) (d : DV) (h : IL7 c w0 L S w) (hp : page < 268435456) (ok : okD l d) (hb : d.k = 2 → l = 2) (hk : d.k ≠ 0) (hL : L.length ≤ 4000000000) :
    Calls Tryz.prog 59 #[.int .u64 (page : Int), svV ⟨l, a, 0, d⟩, .pointer (some ⟨c, 0, none⟩)] w fun e w' => e = .returned (.bool true) ∧ ∃ S', IL7 c w0 (L ++ visL page l d) S' w' ∧ Fr S w w' ∧ Less S S' w := by
  unfold visL
  by_cases c1 : d.k = 1
  · rw [if_pos c1, List.append_nil]
    have HH : Hid (IL7 c w0 L S w) := h
    obtain ⟨dk, da, dr, dq, dx, df⟩ := d
    simp only at c1
    subst c1
    clear h hp ok hb hk hL
    unfold svV
    simp only
    rw [show ((0 : Nat) : Int) = 0 from rfl]
    go_enter Tryz.func59, Tryz.ntmps59
    go_wp2
    go_ret
    exact ⟨rfl, S, HH.out.keep ((Kp.refl w).alloc _), ((Kp.refl w).alloc _).fr S, fun _ => .inl⟩
  · rw [if_neg c1]
    obtain ⟨i, hi, hz, hsz, hby⟩ := info_leaf
    obtain ⟨v, hv, _⟩ := h.v
    have hkk : (d.k = 2 ∧ l = 2) ∨ (d.k = 3 ∧ l = 3) := by
      have := ok.parts
      rcases (by omega : d.k = 2 ∨ d.k = 3) with c | c
      · exact .inl ⟨c, hb c⟩
      · exact .inr ⟨c, this.2.2.2.2.2.2.2.2.2.1 c⟩
    have KT : Aside (∀ u, Calls Tryz.prog 55 #[.int .u64 (page : Int), svV ⟨l, a, 0, d⟩] u fun e w' => e = .returned (lvV (tellN page l d)) ∧ Kp u w') := fun u => tell_any page ⟨l, a, 0, d⟩ u ok hp hkk
    obtain ⟨t, ht⟩ : ∃ t, t = tellN page l d := ⟨_, rfl⟩
    rw [← ht] at KT ⊢
    have KS : Aside (∀ u, Kp w u → ∃ na' n' cap' u', (Builtin.append_ #[70, 70] 70 #[v, .slice (some ⟨u.heap.size, 0, none⟩) 1 1]).run Tryz.prog (u.alloc (.cells #[.int .u64 (t.g : Int), .int .i64 (t.x : Int), .bool t.r, .bool t.q, .bool t.e, .int .i64 t.f, .int .i64 (t.l : Int)] 58)) = .ok (.slice na' n' cap') u' ∧ u'.cell? ⟨c, 0, none⟩ = some v ∧ u'.frozen? ⟨c, 0, none⟩ = false ∧ Hid (∃ S', IL7 c w0 (L ++ [t]) S' (u'.setCell ⟨c, 0, none⟩ (.slice na' n' cap')) ∧ Fr S w (u'.setCell ⟨c, 0, none⟩ (.slice na' n' cap')) ∧ Less S S' w)) := fun u k => by
      obtain ⟨na', n', cap', u', r1, ra, rb, S', q1, q2, q3⟩ := IA.snoc encL_ok Tryz.underlying70 hi hz hsz rfl rfl hby h hv t hL k _ _ rfl rfl
      exact ⟨na', n', cap', u', r1, ra, rb, S', q1, (k.fr S).trans q2, q3⟩
    have CC : Aside (∀ u, Kp w u → u.cell? ⟨c, 0, none⟩ = some v) := fun u k => by
      rw [Kp.cell k (p := ⟨c, 0, none⟩) (Array.getElem?_eq_some_iff.1 hv).1, cell_of_row w c 0 _ _ _ hv]; rfl
    have hc1 : (d.k != 1) = true := bne_iff_ne.2 c1
    clear h hv hp ok hb hk hL hi hz hsz hby hkk ht
    obtain ⟨dk, da, dr, dq, dx, df⟩ := d
    obtain ⟨tg, tx, tr, tq, te, tf, tl⟩ := t
    simp only [svV, lvV] at KT KS hc1 ⊢
    rw [show ((0 : Nat) : Int) = 0 from rfl] at KT ⊢
    have kb : Kp w (w.alloc (.cells #[.int .i64 (l : Int), .int .u64 (a : Int), .int .u64 0, .int .i64 dk, .int .u64 (da : Int), .bool dr, .bool dq, .bool dx, .int .i64 df] 64)) := (Kp.refl w).alloc _
    have cc0 := CC.out _ kb.drew
    have kt := KT.out (w.alloc (.cells #[.int .i64 (l : Int), .int .u64 (a : Int), .int .u64 0, .int .i64 dk, .int .u64 (da : Int), .bool dr, .bool dq, .bool dx, .int .i64 df] 64)).drew
    go_enter Tryz.func59, Tryz.ntmps59
    go_wp2_with fail
    go_region_law (first | (refine step_call2 (by rfl) (by rfl) Tryz.func55 rfl (by decide) (by rfl) (by rfl) kt ?_; intro w2 K2; obtain ⟨na', n', cap', u', r1, ra, rb, H3⟩ := KS.out w2 (kb.drew.trans K2); have cc1 := CC.out w2 (kb.drew.trans K2); have cc2 := CC.out _ ((kb.drew.trans K2).alloc (.cells #[.int .u64 (tg : Int), .int .i64 (tx : Int), .bool tr, .bool tq, .bool te, .int .i64 tf, .int .i64 (tl : Int)] 58))) | (refine step_append_of r1 (by rfl) (.tmp 10) (.tmp 14) (by rfl) (by rfl) (by rfl) (by rfl) ?_))
    all_goals
      go_wp2
      go_ret
      exact ⟨rfl, H3.out⟩
end Go.Proofs.YtanlcmdnhhdhaaaGreatDoor

/- stage2: each, Leaves, tables, Tables. -/
namespace Go.Proofs.YtanlcmdnhhdhaaaGreatDoor
open Go.RowKit
set_option maxRecDepth 10000

def deepA : Nat → DV → Bool := fun _ _ => true
theorem visL_one (p l : Nat) (d : DV) : (visL p l d).length ≤ 1 := by unfold visL; split <;> simp
theorem visitL (c : Nat) (w0 : World) : VS w0 59 #[.pointer (some ⟨c, 0, none⟩)] visL deepA (IL7 c w0) where
  fn := ⟨_, Tryz.func59, rfl, by decide⟩
  kp _ _ _ h := h.kp
  own _ _ _ h := h.own
  keep _ _ _ _ h k := h.keep k
  one := visL_one
  call L S w page l a d h hp _ ok hb hk hL := leafs_one c w0 w L S page l a d h hp ok hb hk hL
/-! ### tables -/
def visT (_ _ : Nat) (d : DV) : List Nat := if d.k = 1 then [d.a] else []
def deepT : Nat → DV → Bool := fun l _ => decide (l + 1 < 3)
def IT1 (c : Nat) (w0 : World) : List Nat → (Nat → Prop) → World → Prop := IA encU8 37 1 100 c w0
theorem info_w64 : ∃ i : TypeInfo, Tryz.prog.info? 37 = some i ∧ i.zero = some (.int .u64 0) ∧ i.size = 1 ∧ i.bytes ≤ 10000 := ⟨_, rfl, rfl, rfl, by decide⟩
set_option maxHeartbeats 4000000 in
theorem tabs_one (c : Nat) (w0 w : World) (L : List Nat) (S : Nat → Prop) (page l a : Nat) (d : DV) (h : IT1 c w0 L S w) (hl : l ≤ 3) (hL : L.length ≤ 4000000000) :
    Calls Tryz.prog 99 #[.int .u64 (page : Int), svV ⟨l, a, 0, d⟩, .pointer (some ⟨c, 0, none⟩)] w fun e w' => e = .returned (.bool (deepT l d)) ∧ ∃ S', IT1 c w0 (L ++ visT page l d) S' w' ∧ Fr S w w' ∧ Less S S' w := by
  unfold visT deepT
  have z1 : (l : Int) ≤ 3 := by omega
  have hdd : decide (l + 1 < 3) = decide ((l : Int) + 1 < 3) := by
    by_cases c : l + 1 < 3
    · rw [decide_eq_true c, decide_eq_true (by omega)]
    · rw [decide_eq_false c, decide_eq_false (by omega)]
  rw [hdd]
  by_cases c1 : d.k = 1
  · rw [if_pos c1]
    obtain ⟨i, hi, hz, hsz, hby⟩ := info_w64
    obtain ⟨v, hv, _⟩ := h.v
    have KS : Aside (∀ u, Kp w u → ∃ na' n' cap' u', (Builtin.append_ #[100, 100] 100 #[v, .slice (some ⟨u.heap.size, 0, none⟩) 1 1]).run Tryz.prog (u.alloc (.cells #[.int .u64 (d.a : Int)] 37)) = .ok (.slice na' n' cap') u' ∧ u'.cell? ⟨c, 0, none⟩ = some v ∧ u'.frozen? ⟨c, 0, none⟩ = false ∧ Hid (∃ S', IT1 c w0 (L ++ [d.a]) S' (u'.setCell ⟨c, 0, none⟩ (.slice na' n' cap')) ∧ Fr S u (u'.setCell ⟨c, 0, none⟩ (.slice na' n' cap')) ∧ Less S S' w)) := fun u k => IA.snoc encU8_ok Tryz.underlying100 hi hz hsz rfl rfl hby h hv d.a hL k _ _ rfl rfl
    have CC : Aside (∀ u, Kp w u → u.cell? ⟨c, 0, none⟩ = some v) := fun u k => by
      rw [Kp.cell k (p := ⟨c, 0, none⟩) (Array.getElem?_eq_some_iff.1 hv).1, cell_of_row w c 0 _ _ _ hv]; rfl
    have hcw : c < w.heap.size := (Array.getElem?_eq_some_iff.1 hv).1
    obtain ⟨dk, da, dr, dq, dx, df⟩ := d
    simp only at c1
    subst c1
    unfold svV
    simp only at *
    rw [show ((0 : Nat) : Int) = 0 from rfl]
    obtain ⟨w1, hw1⟩ : ∃ w1, w1 = w.alloc (.cells #[.int .i64 (l : Int), .int .u64 (a : Int), .int .u64 0, .int .i64 1, .int .u64 (da : Int), .bool dr, .bool dq, .bool dx, .int .i64 df] 64) := ⟨_, rfl⟩
    have kb : Kp w w1 := by rw [hw1]; exact (Kp.refl w).alloc _
    have S1 : SBk w1 w.heap.size ⟨l, a, 0, ⟨1, da, dr, dq, dx, df⟩⟩ := by rw [hw1]; exact SBk.made w ⟨l, a, 0, ⟨1, da, dr, dq, dx, df⟩⟩
    have cc0 := CC.out _ kb
    obtain ⟨na', n', cap', u', r1, ra, rb, H3⟩ := KS.out w1 kb
    have u0 : (u'.setCell ⟨c, 0, none⟩ (.slice na' n' cap')).cell? ⟨w.heap.size, 0, none⟩ = some (.int .i64 (l : Int)) := by
      obtain ⟨S', _, f, _⟩ := H3.out
      exact (S1.fr f (fun c0 => by have := h.own _ c0; omega)).c 0 rfl
    have H4 : Hid (∃ S', IT1 c w0 (L ++ [da]) S' (u'.setCell ⟨c, 0, none⟩ (.slice na' n' cap')) ∧ Fr S w (u'.setCell ⟨c, 0, none⟩ (.slice na' n' cap')) ∧ Less S S' w) := by
      obtain ⟨S', q1, q2, q3⟩ := H3.out
      exact ⟨S', q1, (kb.fr S).trans q2, q3⟩
    have e1 : w1.heap.size = w.heap.size + 1 := by rw [hw1]; simp
    rw [e1] at r1
    rw [hw1] at cc0 r1
    clear h hv hL hi hz hsz hby KS CC S1 kb hdd H3 hw1 e1
    go_enter Tryz.func99, Tryz.ntmps99
    repeat' (first | ((with_reducible refine wp_append_of r1 (.tmp 10) (.tmp 14) ?_ ?_ ?_ ?_ ?_); rfl; rfl; rfl; rfl) | go_values | go_skip | go_guarded | go_step | go_upon | go_back | (simp only []) | (go_values <;> (try go_simp)) | (go_ite <;> go_prune <;> (try go_simp)))
    go_ret
    exact ⟨rfl, H4.out⟩
  · rw [if_neg c1, List.append_nil]
    have HH : Hid (IT1 c w0 L S w) := h
    obtain ⟨dk, da, dr, dq, dx, df⟩ := d
    simp only at c1
    have c1' : (dk == 1) = false := beq_eq_false_iff_ne.2 c1
    clear h hL hdd
    unfold svV
    simp only
    rw [show ((0 : Nat) : Int) = 0 from rfl]
    go_enter Tryz.func99, Tryz.ntmps99
    go_wp2
    go_ret
    exact ⟨rfl, S, HH.out.keep ((Kp.refl w).alloc _), ((Kp.refl w).alloc _).fr S, fun _ => .inl⟩
theorem visitT (c : Nat) (w0 : World) : VS w0 99 #[.pointer (some ⟨c, 0, none⟩)] visT deepT (IT1 c w0) where
  fn := ⟨_, Tryz.func99, rfl, by decide⟩
  kp _ _ _ h := h.kp
  own _ _ _ h := h.own
  keep _ _ _ _ h k := h.keep k
  one p l d := by unfold visT; split <;> simp
  call L S w page l a d h _ hl _ _ _ hL := tabs_one c w0 w L S page l a d h hl hL
section
variable {W w w0 : World} {X Y : Nat → Prop} {bt p pm N pool o : Nat} {M : Nat → Nat → Nat} {C : Nat → Nat} {Z : Nat → Bool} {root : Nat} {E : Nat → Nat → DV}
theorem eachOf_all {α : Type} {g : FuncId} {cap : Array Value} {vis : Nat → Nat → DV → List α} {deep : Nat → DV → Bool} {I : List α → (Nat → Prop) → World → Prop} (T : TS W X w0 bt p pm N pool o M C Z root E) (V : VS w0 g cap vis deep I) :
    EO bt g cap I root E (trv E vis deep 4 0) 0 268960770 := by
  have e3 : EO bt g cap I root E (trv E vis deep 1 3) 3 512 := eachOf_step T V 3 512 0 (trv E vis deep 0 4) (by omega) (.inl ⟨by omega, rfl⟩) (fun c => by omega) (fun _ => rfl)
  have e2 : EO bt g cap I root E (trv E vis deep 2 2) 2 262656 := eachOf_step T V 2 512 512 (trv E vis deep 1 3) (by omega) (.inl ⟨by omega, rfl⟩) (fun _ => e3) (fun c => by omega)
  have e1 : EO bt g cap I root E (trv E vis deep 3 1) 1 134480384 := eachOf_step T V 1 512 262656 (trv E vis deep 2 2) (by omega) (.inl ⟨by omega, rfl⟩) (fun _ => e2) (fun c => by omega)
  exact eachOf_step T V 0 2 134480384 (trv E vis deep 3 1) (by omega) (.inr ⟨rfl, rfl⟩) (fun _ => e1) (fun c => by omega)
set_option maxHeartbeats 4000000 in
theorem each_any {α : Type} {g : FuncId} {cap : Array Value} {vis : Nat → Nat → DV → List α} {deep : Nat → DV → Bool} {I : List α → (Nat → Prop) → World → Prop} (T : TS W X w0 bt p pm N pool o M C Z root E) (V : VS w0 g cap vis deep I) (L : List α) (S : Nat → Prop) (w : World) (hI : I L S w) (hL : L.length ≤ 1000) :
    Calls Tryz.prog 58 #[.pointer (some ⟨bt, 0, none⟩), .func (.func g) #[] cap] w fun e w' => e = .returned (.tuple #[]) ∧ (∃ S', I (L ++ trv E vis deep 4 0 0) S' w' ∧ Fr S w w' ∧ Less S S' w) ∧ (trv E vis deep 4 0 0).length ≤ 268960770 := by
  have k1 := eachOf_all T V 0 root L S w rfl hI (by omega)
  have t := T.tx.kp (V.kp _ _ _ hI)
  have c0 := t.c0
  have c1 := t.c1
  rw [show ((0 : Nat) : Int) = 0 from rfl, show pgE 0 (512 * 0) = 0 from rfl, show ((0 : Nat) : Int) = 0 from rfl] at k1
  have q0 : ∀ w, (binOp .neq 24 (.pointer (some ⟨p, 0, none⟩)) (.pointer none)).run Tryz.prog w = .ok (.bool true) w := fun w => by kernel_rfl
  have KE : Aside (Calls Tryz.prog 94 #[.pointer (some ⟨bt, 0, none⟩), .int .u64 ((root * 4096 : Nat) : Int), .int .i64 0, .int .u64 0, .func (.func g) #[] cap] w fun e w' => e = .returned (.tuple #[]) ∧ Hid ((∃ S', I (L ++ trv E vis deep 4 0 0) S' w' ∧ Fr S w w' ∧ Less S S' w) ∧ (trv E vis deep 4 0 0).length ≤ 268960770)) := k1
  clear k1 t T V hI hL
  generalize root * 4096 = ra at *
  go_enter Tryz.func58, Tryz.ntmps58
  go_wp2_with fail
  with_reducible refine KE.out.mono ?_
  rintro e w1 ⟨rfl, H1⟩
  clear KE
  go_wp2
  go_end0
  exact ⟨rfl, H1.out⟩
end
end Go.Proofs.YtanlcmdnhhdhaaaGreatDoor

/- stage2: what a visit of all entries has, and in what order. -/
namespace Go.Proofs.YtanlcmdnhhdhaaaGreatDoor
open Go.RowKit
set_option maxRecDepth 10000

theorem pg_bounds {l m e f : Nat} (h1 : l ≤ m) (h2 : m ≤ 3) (h : e / 512 ^ (m - l) = f) : pgE l f ≤ pgE m e ∧ pgE m e < pgE l (f + 1) := by
  subst h
  unfold pgE
  rcases (by omega : m = 0 ∨ m = 1 ∨ m = 2 ∨ m = 3) with rfl | rfl | rfl | rfl
  · obtain rfl : l = 0 := by omega
    show e / 1 * 134217728 ≤ e * 134217728 ∧ e * 134217728 < (e / 1 + 1) * 134217728
    omega
  · rcases (by omega : l = 0 ∨ l = 1) with rfl | rfl
    · show e / 512 * 134217728 ≤ e * 262144 ∧ e * 262144 < (e / 512 + 1) * 134217728; omega
    · show e / 1 * 262144 ≤ e * 262144 ∧ e * 262144 < (e / 1 + 1) * 262144; omega
  · rcases (by omega : l = 0 ∨ l = 1 ∨ l = 2) with rfl | rfl | rfl
    · show e / 262144 * 134217728 ≤ e * 512 ∧ e * 512 < (e / 262144 + 1) * 134217728; omega
    · show e / 512 * 262144 ≤ e * 512 ∧ e * 512 < (e / 512 + 1) * 262144; omega
    · show e / 1 * 512 ≤ e * 512 ∧ e * 512 < (e / 1 + 1) * 512; omega
  · rcases (by omega : l = 0 ∨ l = 1 ∨ l = 2 ∨ l = 3) with rfl | rfl | rfl | rfl
    · show e / 134217728 * 134217728 ≤ e * 1 ∧ e * 1 < (e / 134217728 + 1) * 134217728; omega
    · show e / 262144 * 262144 ≤ e * 1 ∧ e * 1 < (e / 262144 + 1) * 262144; omega
    · show e / 512 * 512 ≤ e * 1 ∧ e * 1 < (e / 512 + 1) * 512; omega
    · show e / 1 * 1 ≤ e * 1 ∧ e * 1 < (e / 1 + 1) * 1; omega
theorem pgE_mono {l e f : Nat} (h : e ≤ f) : pgE l e ≤ pgE l f := Nat.mul_le_mul_right _ h
theorem div_pow_succ (e n : Nat) : e / 512 ^ (n + 1) = e / 512 ^ n / 512 := by rw [Nat.pow_succ, Nat.div_div_eq_div_mul]
section
variable {α : Type} {M : Nat → Nat → Nat} {C : Nat → Nat} {pool root : Nat} {Z : Nat → Bool} {E : Nat → Nat → DV} {vis : Nat → Nat → DV → List α}
/-- What is above an entry that is not None is a table. -/
theorem TG.above (h : TG M C pool Z root E) {m e : Nat} (hm : m ≤ 2) (hk : (E (m + 1) e).k ≠ 0) : (E m (e / 512)).k = 1 := by
  obtain ⟨x, hx⟩ := h.up (m + 1) e (by omega) hk
  rw [tbl_succ] at hx
  by_cases c : (E m (e / 512)).k = 1
  · exact c
  · rw [if_neg c] at hx; cases hx
theorem TG.anc (h : TG M C pool Z root E) {l : Nat} : ∀ n e, l + n + 1 ≤ 3 → (E (l + n + 1) e).k ≠ 0 → (E l (e / 512 ^ (n + 1))).k = 1
  | 0, e, hn, hk => by
    have := h.above (m := l) (by omega) hk
    simpa using this
  | n + 1, e, hn, hk => by
    have h1 : (E (l + n + 1) (e / 512)).k = 1 := h.above (by omega) hk
    have h2 := TG.anc (l := l) h n (e / 512) (by omega) (by rw [h1]; decide)
    rw [Nat.div_div_eq_div_mul, Nat.mul_comm, ← Nat.pow_succ] at h2
    exact h2
theorem mem_vEn (h : TG M C pool Z root E) (x : α) : ∀ n l f, l + n = 3 → (x ∈ vEn E vis deepA (trv E vis deepA n (l + 1)) l f ↔ ∃ m e, l ≤ m ∧ m ≤ 3 ∧ e / 512 ^ (m - l) = f ∧ (E m e).k ≠ 0 ∧ x ∈ vis (pgE m e) m (E m e))
  | n, l, f, hn => by
    have rc : (E l f).k = 1 → (x ∈ trv E vis deepA n (l + 1) f ↔ ∃ m e, l + 1 ≤ m ∧ m ≤ 3 ∧ e / 512 ^ (m - l) = f ∧ (E m e).k ≠ 0 ∧ x ∈ vis (pgE m e) m (E m e)) := fun _ => by
      cases n with
      | zero => exact ⟨(fun c => by cases c), fun ⟨m, e, a, b, _⟩ => by omega⟩
      | succ n =>
        show x ∈ (List.range 512).flatMap (fun i => vEn E vis deepA (trv E vis deepA n (l + 1 + 1)) (l + 1) (512 * f + i)) ↔ _
        rw [List.mem_flatMap]
        constructor
        · rintro ⟨i, hi, hx⟩
          rw [List.mem_range] at hi
          obtain ⟨m, e, a1, a2, a3, a4⟩ := (mem_vEn h x n (l + 1) (512 * f + i) (by omega)).1 hx
          refine ⟨m, e, a1, a2, ?_, a4⟩
          rw [show m - l = m - (l + 1) + 1 by omega, div_pow_succ, a3]
          omega
        · rintro ⟨m, e, a1, a2, a3, a4⟩
          refine ⟨e / 512 ^ (m - (l + 1)) % 512, List.mem_range.2 (Nat.mod_lt _ (by decide)), (mem_vEn h x n (l + 1) _ (by omega)).2 ⟨m, e, a1, a2, ?_, a4⟩⟩
          rw [show m - l = m - (l + 1) + 1 by omega, div_pow_succ] at a3
          omega
    unfold vEn
    by_cases c0 : (E l f).k = 0
    · rw [if_pos c0]
      refine ⟨(fun c => by cases c), fun ⟨m, e, a1, a2, a3, a4, a5⟩ => ?_⟩
      exfalso
      rcases (by omega : m = l ∨ l + 1 ≤ m) with c | c
      · subst c
        rw [Nat.sub_self, Nat.pow_zero, Nat.div_one] at a3
        subst a3
        exact a4 c0
      · obtain ⟨q, rfl⟩ : ∃ q, m = l + q + 1 := ⟨m - l - 1, by omega⟩
        have := h.anc q e a2 a4
        rw [show l + q + 1 - l = q + 1 by omega] at a3
        rw [a3, c0] at this
        cases this
    · rw [if_neg c0, List.mem_append]
      constructor
      · rintro (hx | hx)
        · exact ⟨l, f, Nat.le_refl _, by omega, by simp, c0, hx⟩
        · by_cases c1 : deepA l (E l f) = true ∧ (E l f).k = 1
          · rw [if_pos c1] at hx
            obtain ⟨m, e, a1, a2, a3⟩ := (rc c1.2).1 hx
            exact ⟨m, e, by omega, a2, a3⟩
          · rw [if_neg c1] at hx; cases hx
      · rintro ⟨m, e, a1, a2, a3, a4, a5⟩
        rcases (by omega : m = l ∨ l + 1 ≤ m) with c | c
        · subst c
          rw [Nat.sub_self, Nat.pow_zero, Nat.div_one] at a3
          subst a3
          exact .inl a5
        · obtain ⟨q, rfl⟩ : ∃ q, m = l + q + 1 := ⟨m - l - 1, by omega⟩
          have k1 := h.anc q e a2 a4
          have a3' := a3
          rw [show l + q + 1 - l = q + 1 by omega] at a3'
          rw [a3'] at k1
          rw [if_pos ⟨rfl, k1⟩]
          exact .inr ((rc k1).2 ⟨_, e, c, a2, a3, a4, a5⟩)
theorem mem_trv (h : TG M C pool Z root E) (x : α) : x ∈ trv E vis deepA 4 0 0 ↔ ∃ m e, m ≤ 3 ∧ (E m e).k ≠ 0 ∧ x ∈ vis (pgE m e) m (E m e) := by
  show x ∈ (List.range 512).flatMap (fun i => vEn E vis deepA (trv E vis deepA 3 (0 + 1)) 0 (512 * 0 + i)) ↔ _
  rw [List.mem_flatMap]
  constructor
  · rintro ⟨i, hi, hx⟩
    obtain ⟨m, e, a1, a2, a3, a4⟩ := (mem_vEn h x 3 0 _ rfl).1 hx
    exact ⟨m, e, a2, a4⟩
  · rintro ⟨m, e, a2, a4, a5⟩
    have h0 : (E 0 (e / 512 ^ m)).k ≠ 0 := by
      cases m with
      | zero => simpa using a4
      | succ q =>
        have := h.anc (l := 0) q e (by omega) (by rw [Nat.zero_add]; exact a4)
        rw [this]; decide
    have h1 := h.two _ h0
    refine ⟨e / 512 ^ m, List.mem_range.2 (by omega), (mem_vEn h x 3 0 _ rfl).2 ⟨m, e, Nat.zero_le _, a2, ?_, a4, a5⟩⟩
    rw [Nat.sub_zero]
    omega
theorem pair_vEn (h : TG M C pool Z root E) {R : α → α → Prop} (one : ∀ p l d, (vis p l d).length ≤ 1) (H : ∀ m e m' e', m ≤ 3 → m' ≤ 3 → (E m e).k ≠ 0 → (E m' e').k ≠ 0 → (pgE m e < pgE m' e' ∨ (pgE m e = pgE m' e' ∧ m < m')) → ∀ x ∈ vis (pgE m e) m (E m e), ∀ y ∈ vis (pgE m' e') m' (E m' e'), R x y) :
    ∀ n l f, l + n = 3 → (vEn E vis deepA (trv E vis deepA n (l + 1)) l f).Pairwise R
  | n, l, f, hn => by
    have v1 : ∀ p l d, (vis p l d).Pairwise R := fun p l d => by
      have := one p l d
      match hv : vis p l d with
      | [] => exact List.Pairwise.nil
      | [a] => exact List.pairwise_singleton _ _
      | a :: b :: r => rw [hv] at this; simp at this
    unfold vEn
    by_cases c0 : (E l f).k = 0
    · rw [if_pos c0]; exact List.Pairwise.nil
    · rw [if_neg c0]
      by_cases c1 : deepA l (E l f) = true ∧ (E l f).k = 1
      · rw [if_pos c1]
        cases n with
        | zero => show (vis _ _ _ ++ []).Pairwise R; rw [List.append_nil]; exact v1 _ _ _
        | succ n =>
          have mm : ∀ y, y ∈ trv E vis deepA (n + 1) (l + 1) f → ∃ m e, l + 1 ≤ m ∧ m ≤ 3 ∧ e / 512 ^ (m - l) = f ∧ (E m e).k ≠ 0 ∧ y ∈ vis (pgE m e) m (E m e) := fun y hy => by
            have hy' : y ∈ (List.range 512).flatMap (fun i => vEn E vis deepA (trv E vis deepA n (l + 1 + 1)) (l + 1) (512 * f + i)) := hy
            rw [List.mem_flatMap] at hy'
            obtain ⟨i, hi, hx⟩ := hy'
            rw [List.mem_range] at hi
            obtain ⟨m, e, a1, a2, a3, a4⟩ := (mem_vEn h y n (l + 1) (512 * f + i) (by omega)).1 hx
            refine ⟨m, e, a1, a2, ?_, a4⟩
            rw [show m - l = m - (l + 1) + 1 by omega, div_pow_succ, a3]
            omega
          rw [List.pairwise_append]
          refine ⟨v1 _ _ _, ?_, fun x hx y hy => ?_⟩
          · show ((List.range 512).flatMap (fun i => vEn E vis deepA (trv E vis deepA n (l + 1 + 1)) (l + 1) (512 * f + i))).Pairwise R
            rw [List.pairwise_flatMap]
            refine ⟨fun i _ => pair_vEn h one H n (l + 1) _ (by omega), ?_⟩
            refine List.Pairwise.imp ?_ List.pairwise_lt_range
            intro i i' hlt x hx y hy
            obtain ⟨m, e, a1, a2, a3, a4, a5⟩ := (mem_vEn h x n (l + 1) _ (by omega)).1 hx
            obtain ⟨m', e', b1, b2, b3, b4, b5⟩ := (mem_vEn h y n (l + 1) _ (by omega)).1 hy
            have p1 := pg_bounds a1 a2 a3
            have p2 := pg_bounds b1 b2 b3
            have p3 := pgE_mono (l := l + 1) (show 512 * f + i + 1 ≤ 512 * f + i' by omega)
            exact H m e m' e' a2 b2 a4 b4 (.inl (by omega)) x a5 y b5
          · obtain ⟨m, e, a1, a2, a3, a4, a5⟩ := mm y hy
            have p1 := pg_bounds (l := l) (by omega) a2 a3
            exact H l f m e (by omega) a2 c0 a4 (by omega) x hx y a5
      · rw [if_neg c1, List.append_nil]; exact v1 _ _ _
theorem pair_trv (h : TG M C pool Z root E) {R : α → α → Prop} (one : ∀ p l d, (vis p l d).length ≤ 1) (H : ∀ m e m' e', m ≤ 3 → m' ≤ 3 → (E m e).k ≠ 0 → (E m' e').k ≠ 0 → (pgE m e < pgE m' e' ∨ (pgE m e = pgE m' e' ∧ m < m')) → ∀ x ∈ vis (pgE m e) m (E m e), ∀ y ∈ vis (pgE m' e') m' (E m' e'), R x y) :
    (trv E vis deepA 4 0 0).Pairwise R := by
  show ((List.range 512).flatMap (fun i => vEn E vis deepA (trv E vis deepA 3 (0 + 1)) 0 (512 * 0 + i))).Pairwise R
  rw [List.pairwise_flatMap]
  refine ⟨fun i _ => pair_vEn h one H 3 0 _ rfl, ?_⟩
  refine List.Pairwise.imp ?_ List.pairwise_lt_range
  intro i i' hlt x hx y hy
  obtain ⟨m, e, a1, a2, a3, a4, a5⟩ := (mem_vEn h x 3 0 _ rfl).1 hx
  obtain ⟨m', e', b1, b2, b3, b4, b5⟩ := (mem_vEn h y 3 0 _ rfl).1 hy
  have p1 := pg_bounds a1 a2 a3
  have p2 := pg_bounds b1 b2 b3
  have p3 := pgE_mono (l := 0) (show 512 * 0 + i + 1 ≤ 512 * 0 + i' by omega)
  exact H m e m' e' a2 b2 a4 b4 (.inl (by omega)) x a5 y b5
end
end Go.Proofs.YtanlcmdnhhdhaaaGreatDoor

/- stage2: how many tables there are. -/
namespace Go.Proofs.YtanlcmdnhhdhaaaGreatDoor
open Go.RowKit
set_option maxRecDepth 10000

/-- The addresses of all tables. -/
def tabsA (root : Nat) (E : Nat → Nat → DV) : List Nat := (root * 4096) :: trv E visT deepT 4 0 0
/-- All leaves, by page. -/
def lvsA (E : Nat → Nat → DV) : List LV := trv E visL deepA 4 0 0
/-- The frames of a table's own. -/
def ownC (C : Nat → Nat) (Z : Nat → Bool) : Nat → Bool := fun x => decide (C x ≠ 0) && !Z x
theorem flatMap_nil {α β : Type} (f : α → List β) : ∀ L : List α, (∀ a ∈ L, f a = []) → L.flatMap f = []
  | [], _ => rfl
  | a :: L, h => by rw [List.flatMap_cons, h a (by simp), flatMap_nil f L (fun b hb => h b (by simp [hb]))]; rfl
theorem flatMap_like {α β : Type} (f g : α → List β) : ∀ L : List α, (∀ a ∈ L, f a = g a) → L.flatMap f = L.flatMap g
  | [], _ => rfl
  | a :: L, h => by rw [List.flatMap_cons, List.flatMap_cons, h a (by simp), flatMap_like f g L (fun b hb => h b (by simp [hb]))]
theorem cnt_mem : ∀ (L : List Nat) (n : Nat), L.Pairwise (· ≠ ·) → (∀ x ∈ L, x < n) → cnt (fun x => decide (x ∈ L)) n = L.length
  | [], n, _, _ => by
    refine (cnt_zero n).2 fun k _ => by simp
  | a :: L, n, hp, hl => by
    rw [List.pairwise_cons] at hp
    have ih := cnt_mem L n hp.2 (fun x hx => hl x (by simp [hx]))
    have ha : a ∉ L := fun c => hp.1 a c rfl
    rw [cnt_on (F := fun x => decide (x ∈ L)) (G := fun x => decide (x ∈ a :: L)) (x := a) (by simpa using ha) (fun k => ?_) n (hl a (by simp)), ih]
    · rfl
    · by_cases c : k = a
      · subst c; simp
      · simp [c]
theorem cnt_both (F G : Nat → Bool) : ∀ n, (∀ k, k < n → G k = !F k) → cnt F n + cnt G n = n
  | 0, _ => rfl
  | n + 1, h => by
    have ih := cnt_both F G n (fun k hk => h k (by omega))
    have hn := h n (by omega)
    unfold cnt
    rw [hn]
    cases F n <;> simp <;> omega
section
variable {M : Nat → Nat → Nat} {C : Nat → Nat} {pool root : Nat} {Z : Nat → Bool} {E : Nat → Nat → DV}
theorem TG.noT3 (h : TG M C pool Z root E) (e : Nat) : (E 3 e).k ≠ 1 := fun c => by
  have := (h.ok 3 e (by omega)).parts.2.2.2.2.2.2.2.1 c
  omega
theorem TG.trvT (h : TG M C pool Z root E) : trv E visT deepT 4 0 0 = trv E visT deepA 4 0 0 := by
  have t1 : ∀ dp j, trv E visT dp 1 3 j = [] := fun dp j => flatMap_nil _ _ fun i _ => by
    unfold vEn visT
    by_cases c : (E 3 (512 * j + i)).k = 0
    · rw [if_pos c]
    · rw [if_neg c, if_neg (h.noT3 _), if_neg (fun c => h.noT3 _ c.2)]; rfl
  have t2 : ∀ j, trv E visT deepT 2 2 j = trv E visT deepA 2 2 j := fun j => flatMap_like _ _ _ fun i _ => by
    unfold vEn
    by_cases c : (E 2 (512 * j + i)).k = 0
    · rw [if_pos c, if_pos c]
    · rw [if_neg c, if_neg c, t1, t1]
      congr 1
      split <;> split <;> rfl
  have t3 : ∀ j, trv E visT deepT 3 1 j = trv E visT deepA 3 1 j := fun j => flatMap_like _ _ _ fun i _ => by
    unfold vEn
    by_cases c : (E 1 (512 * j + i)).k = 0
    · rw [if_pos c, if_pos c]
    · rw [if_neg c, if_neg c, t2]
      rfl
  exact flatMap_like _ _ _ fun i _ => by
    unfold vEn
    by_cases c : (E 0 (512 * 0 + i)).k = 0
    · rw [if_pos c, if_pos c]
    · rw [if_neg c, if_neg c, t3]
      rfl
theorem TG.tabs_mem (h : TG M C pool Z root E) (a : Nat) : a ∈ tabsA root E ↔ ∃ l j x, l ≤ 3 ∧ tbl root E l j = some x ∧ a = x * 4096 := by
  unfold tabsA
  rw [h.trvT, List.mem_cons, mem_trv h]
  constructor
  · rintro (rfl | ⟨m, e, a1, a2, a3⟩)
    · exact ⟨0, 0, root, by omega, rfl, rfl⟩
    · unfold visT at a3
      by_cases c : (E m e).k = 1
      · rw [if_pos c, List.mem_singleton] at a3
        have pr := (h.ok m e a1).parts
        refine ⟨m + 1, e, (E m e).a / 4096, by have := pr.2.2.2.2.2.2.2.1 c; omega, by rw [tbl_succ, if_pos c], by have := pr.2.2.2.2.2.1; omega⟩
      · rw [if_neg c] at a3; cases a3
  · rintro ⟨l, j, x, hl, e, rfl⟩
    cases l with
    | zero =>
      have e' : (if j = 0 then some root else none) = some x := e
      by_cases c : j = 0
      · rw [if_pos c] at e'; cases e'; exact .inl rfl
      · rw [if_neg c] at e'; cases e'
    | succ m =>
      rw [tbl_succ] at e
      by_cases c : (E m j).k = 1
      · rw [if_pos c] at e
        cases e
        have pr := (h.ok m j (by omega)).parts
        refine .inr ⟨m, j, by omega, by rw [c]; decide, ?_⟩
        unfold visT
        rw [if_pos c, List.mem_singleton]
        have := pr.2.2.2.2.2.1
        omega
      · rw [if_neg c] at e; cases e
theorem TG.tabs_apart (h : TG M C pool Z root E) : (tabsA root E).Pairwise (· ≠ ·) := by
  have key : ∀ m e, m ≤ 3 → ∀ x ∈ visT (pgE m e) m (E m e), (E m e).k = 1 ∧ m ≤ 2 ∧ tbl root E (m + 1) e = some (x / 4096) ∧ x % 4096 = 0 := fun m e hm x hx => by
    unfold visT at hx
    by_cases c : (E m e).k = 1
    · rw [if_pos c, List.mem_singleton] at hx
      have pr := (h.ok m e hm).parts
      exact ⟨c, pr.2.2.2.2.2.2.2.1 c, by rw [tbl_succ, if_pos c, hx], by rw [hx]; exact pr.2.2.2.2.2.1⟩
    · rw [if_neg c] at hx; cases hx
  unfold tabsA
  rw [h.trvT, List.pairwise_cons]
  refine ⟨fun y hy e => ?_, pair_trv h (fun p l d => by unfold visT; split <;> simp) fun m e m' e' hm hm' hk hk' ho x hx y hy c => ?_⟩
  · obtain ⟨m, e', a1, a2, a3⟩ := (mem_trv h y).1 hy
    obtain ⟨b1, b2, b3, b4⟩ := key m e' a1 y a3
    have := h.one 0 0 (m + 1) e' root (by omega) (by omega) rfl (by rw [b3, ← e, Nat.mul_div_cancel _ (by decide)])
    omega
  · obtain ⟨b1, b2, b3, b4⟩ := key m e hm x hx
    obtain ⟨d1, d2, d3, d4⟩ := key m' e' hm' y hy
    subst c
    obtain ⟨p1, p2⟩ := h.one _ _ _ _ _ (by omega) (by omega) b3 d3
    have q1 : m = m' := by omega
    subst q1
    subst p2
    omega
theorem TG.tabs_len (h : TG M C pool Z root E) : (tabsA root E).length = cnt (ownC C Z) pool := by
  have hm : ∀ a ∈ tabsA root E, a / 4096 * 4096 = a := fun a ha => by
    obtain ⟨l, j, x, _, _, rfl⟩ := (h.tabs_mem a).1 ha
    rw [Nat.mul_div_cancel _ (by decide)]
  have hp : ((tabsA root E).map (· / 4096)).Pairwise (· ≠ ·) := by
    rw [List.pairwise_map]
    refine List.Pairwise.imp_of_mem ?_ h.tabs_apart
    intro a b ha hb hab c
    exact hab (by rw [← hm a ha, ← hm b hb, c])
  rw [← List.length_map (f := (· / 4096)), ← cnt_mem _ pool hp]
  · refine cnt_like pool fun x hx => ?_
    unfold ownC
    rw [Bool.eq_iff_iff, decide_eq_true_iff, List.mem_map]
    simp only [Bool.and_eq_true, decide_eq_true_eq, Bool.not_eq_true']
    constructor
    · rintro ⟨a, ha, rfl⟩
      obtain ⟨l, j, x, hl, e, rfl⟩ := (h.tabs_mem a).1 ha
      rw [Nat.mul_div_cancel _ (by decide)]
      have := h.mine l j x hl e
      exact ⟨by omega, this.2.2⟩
    · rintro ⟨hC, hZ⟩
      obtain ⟨l, j, hl, e⟩ := h.all x hx hC hZ
      exact ⟨x * 4096, (h.tabs_mem _).2 ⟨l, j, x, hl, e, rfl⟩, Nat.mul_div_cancel _ (by decide)⟩
  · intro x hx
    rw [List.mem_map] at hx
    obtain ⟨a, ha, rfl⟩ := hx
    obtain ⟨l, j, x, hl, e, rfl⟩ := (h.tabs_mem a).1 ha
    rw [Nat.mul_div_cancel _ (by decide)]
    exact (h.mine l j x hl e).1
/-- All table pages are free or a table's own, where there is no other. -/
theorem cnt_alone (pool : Nat) (C : Nat → Nat) : cnt (fT pool C) pool + cnt (ownC C (fun _ => false)) pool = pool := cnt_both _ _ pool fun k hk => by
  unfold ownC fT
  simp [hk]
end
end Go.Proofs.YtanlcmdnhhdhaaaGreatDoor
