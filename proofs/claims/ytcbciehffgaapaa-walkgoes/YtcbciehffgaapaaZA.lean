/- Two appends in one assignment, in whatever order. -/
import Derived.Test.YtcbciehffgaapaaZ9
namespace Go.Proofs.Ytcbciehffgaapaa
open Go.RowKit

/-- One value changed. -/
def upd (u : Nat → Value) (k : Nat) (v : Value) : Nat → Value := fun j => if j = k then v else u j
/-- A frame with n slots from s on laid anew. -/
def lays (s : Nat) (u : Nat → Value) : Nat → Array Value → Array Value
  | 0, t => t
  | n + 1, t => (lays s u n t).setIfInBounds (s + n) (u n)
theorem lays_size (s : Nat) (u : Nat → Value) (t : Array Value) : ∀ n, (lays s u n t).size = t.size
  | 0 => rfl
  | n + 1 => by rw [lays, Array.size_setIfInBounds, lays_size s u t n]
theorem lays_get (s : Nat) (u : Nat → Value) (t : Array Value) : ∀ n i, (lays s u n t)[i]? = if s ≤ i ∧ i < s + n ∧ i < t.size then some (u (i - s)) else t[i]?
  | 0, i => by rw [if_neg (by omega)]; rfl
  | n + 1, i => by
    rw [lays, Array.getElem?_setIfInBounds, lays_size, lays_get s u t n]
    by_cases c : s + n = i
    · subst c
      rw [if_pos rfl]
      by_cases d : s + n < t.size
      · rw [if_pos d, if_pos (by omega), show s + n - s = n by omega]
      · rw [if_neg d, if_neg (by omega)]
        simp; omega
    · rw [if_neg c]
      by_cases d : s ≤ i ∧ i < s + n ∧ i < t.size
      · rw [if_pos d, if_pos (by omega)]
      · rw [if_neg d, if_neg (by omega)]
/-- The frame a with n slots from s on laid anew. -/
def layA (a : Act) (s n : Nat) (u : Nat → Value) : Act := { tmps := lays s u n a.tmps, defers := a.defers }
theorem layA_put (a : Act) (s n k : Nat) (u : Nat → Value) (v : Value) (hk : k < n) : (layA a s n u).put (some (s + k)) v = layA a s n (upd u k v) := by
  unfold layA Act.put
  simp only [Act.mk.injEq, and_true]
  apply Array.ext_getElem?
  intro i
  rw [Array.getElem?_setIfInBounds, lays_size, lays_get, lays_get]
  by_cases c : s + k = i
  · subst c
    rw [if_pos rfl]
    by_cases d : s + k < a.tmps.size
    · rw [if_pos d, if_pos (by omega)]
      unfold upd
      rw [if_pos (by omega)]
    · rw [if_neg d, if_neg (by omega)]
      simp; omega
  · rw [if_neg c]
    by_cases d : s ≤ i ∧ i < s + n ∧ i < a.tmps.size
    · rw [if_pos d, if_pos d]
      unfold upd
      rw [if_neg (by omega)]
    · rw [if_neg d, if_neg d]
theorem layA_in (a : Act) (s n k : Nat) (u : Nat → Value) (hk : k < n) (hs : s + n ≤ a.tmps.size) : (layA a s n u).eval (.tmp (s + k)) = u k := by
  show (lays s u n a.tmps).getD (s + k) undef = _
  rw [Array.getD_eq_getD_getElem?, lays_get, if_pos (by omega), show s + k - s = k by omega]
  rfl
theorem layA_out (a : Act) (s n k : Nat) (u : Nat → Value) (hk : k < s) : (layA a s n u).eval (.tmp k) = a.eval (.tmp k) := by
  show (lays s u n a.tmps).getD k undef = a.tmps.getD k undef
  rw [Array.getD_eq_getD_getElem?, lays_get, if_neg (by omega), Array.getD_eq_getD_getElem?]
theorem layA_self (a : Act) (s n : Nat) (hs : s + n ≤ a.tmps.size) : layA a s n (fun k => a.eval (.tmp (s + k))) = a := by
  obtain ⟨t, d⟩ := a
  unfold layA
  simp only [Act.mk.injEq, and_true]
  apply Array.ext_getElem?
  intro i
  rw [lays_get]
  by_cases c : s ≤ i ∧ i < s + n ∧ i < t.size
  · rw [if_pos c]
    show some (t.getD (s + (i - s)) undef) = _
    rw [show s + (i - s) = i by omega, Array.getD_eq_getD_getElem?, Array.getElem?_eq_getElem c.2.2]
    rfl
  · rw [if_neg c]

section
variable {oo : Oper} {a : Act} {w : World} {K : Act → World → Prop} {Q : Exit → Act → World → Prop} {b j : Nat}
theorem wp_field0 {y : Operand} (ho : oo.op = .fieldAddr 26 y 0) (hx : a.eval y = .pointer (some ⟨b, 0, none⟩)) (h : K (a.put oo.dst (.pointer (some ⟨b, 0, none⟩))) w) : oo.wp Try.prog a w K Q := by
  unfold Oper.wp execOp
  generalize a.eval = ρ at hx ⊢
  simp [ho, hx, go_sem]
  exact h
theorem wp_field1 {y : Operand} (ho : oo.op = .fieldAddr 26 y 1) (hx : a.eval y = .pointer (some ⟨b, 0, none⟩)) (h : K (a.put oo.dst (.pointer (some ⟨b, 1, none⟩))) w) : oo.wp Try.prog a w K Q := by
  unfold Oper.wp execOp
  generalize a.eval = ρ at hx ⊢
  simp [ho, hx, go_sem]
  exact h
theorem wp_load_u {y : Operand} {v : Value} (ho : oo.op = .load 24 y) (hx : a.eval y = .pointer (some ⟨b, j, none⟩)) (hc : w.cell? ⟨b, j, none⟩ = some v) (h : K (a.put oo.dst v) w) : oo.wp Try.prog a w K Q := by
  unfold Oper.wp execOp
  generalize a.eval = ρ at hx ⊢
  simp [ho, hx, go_sem, hc]
  exact h
theorem wp_build_u {y : Operand} {x : Int} (ho : oo.op = .buildSlice 24 1 #[(0, y)]) (hx : a.eval y = .int .u64 x) (h : K (a.put oo.dst (.slice (some ⟨w.heap.size, 0, none⟩) 1 1)) (w.alloc (.cells #[.int .u64 x] 22))) : oo.wp Try.prog a w K Q := by
  unfold Oper.wp execOp
  generalize a.eval = ρ at hx ⊢
  simp [ho, hx, go_sem]
  exact h
theorem wp_store_u {y z : Operand} {v v0 : Value} (ho : oo.op = .store 24 y z) (hd : oo.dst = none) (hx : a.eval y = .pointer (some ⟨b, j, none⟩)) (hz : a.eval z = v) (hs : ∃ na n c, v = .slice na n c) (hc : w.cell? ⟨b, j, none⟩ = some v0) (hf : w.frozen? ⟨b, j, none⟩ = false) (h : K a (w.setCell ⟨b, j, none⟩ v)) : oo.wp Try.prog a w K Q := by
  obtain ⟨na, n, c, rfl⟩ := hs
  unfold Oper.wp execOp
  generalize a.eval = ρ at hx hz ⊢
  simp [ho, hx, hz, go_sem, hc, hf, hd]
  exact h
end

theorem UW.fr {w w' : World} {v : Value} {A : List Nat} (h : UW w v A) {S : Nat → Prop} (k : Fr S w w') (hS : ∀ g, v.ownBlock = some g → ¬ S g) : UW w' v A := OL.fr h k hS
theorem UW.lt {w : World} {v : Value} {A : List Nat} (h : UW w v A) {g : Nat} (e : v.ownBlock = some g) : g < w.heap.size := by
  obtain ⟨na, cap, rfl, _, h2⟩ := OL.form h
  rcases h2 with ⟨rfl, _⟩ | ⟨g', rfl, h3⟩
  · cases e
  · cases e; exact h3
theorem UW.shape {w : World} {v : Value} {A : List Nat} (h : UW w v A) : ∃ na n c, v = .slice na n c := by
  obtain ⟨na, cap, rfl, _⟩ := OL.form h
  exact ⟨_, _, _, rfl⟩
/-- An append of one word. -/
theorem UW.snoc {w : World} {v : Value} {A : List Nat} (h : UW w v A) (p c : Nat) (hc : w.heap[c]? = some (.cells #[.int .u64 (p : Int)] 22)) (hl : A.length ≤ 1000) :
    ∃ v' w', (Builtin.append_ #[24, 24] 24 #[v, .slice (some ⟨c, 0, none⟩) 1 1]).run Try.prog w = .ok v' w' ∧ UW w' v' (A ++ [p]) ∧ Fr (fun g => v.ownBlock = some g) w w' ∧ (v'.ownBlock = v.ownBlock ∨ v'.ownBlock = some w.heap.size) := by
  obtain ⟨i, hi, hz, hsz, hb⟩ : ∃ i : TypeInfo, Try.prog.info? 22 = some i ∧ i.zero = some (.int .u64 0) ∧ i.size = 1 ∧ i.bytes = 8 := ⟨_, rfl, rfl, rfl, rfl⟩
  obtain ⟨v', w', h1, h2, h3, h4⟩ := OL.append (P := Try.prog) encU_ok Try.underlying24 hi hz hsz hb rfl h [p] (some ⟨c, 0, none⟩) 1 1 rfl (.inr ⟨c, 0, rfl, fun j u hu => by
    rw [cell_of_row _ _ (0 + j) _ _ _ hc]
    simpa [encU] using hu⟩) (by simp; omega) (by decide) 24
  exact ⟨v', w', h1, h2, Fr.grown h3 (fun g e => e), h4⟩

/-- What an operation that may be next waits for is done. -/
theorem ready_dep {ops : Array Oper} {t : Array Bool} {i : Nat} {q : Oper} {e : Edge} (h : i ∈ Region.ready .any ops t) (hq : ops[i]? = some q) (he : e ∈ q.after) (hb : Region.binds .any e = true) : t.getD e.on false = true := by
  obtain ⟨_, q', hq', ha⟩ := mem_ready.1 h
  rw [hq] at hq'
  cases hq'
  exact ha e he hb
/-- Where none may be next all are done. -/
theorem ready_all {ops : Array Oper} {t : Array Bool} (hd : ((List.range ops.size).all fun i => ((ops[i]?).map fun q => q.after.all fun e => decide (e.on < i)).getD true) = true) (hs : t.size = ops.size) (hr : Region.ready .any ops t = []) : ∀ i, i < ops.size → t.getD i false = true := by
  intro i
  induction i using Nat.strongRecOn with
  | _ i ih =>
    intro hi
    cases c : t.getD i false
    · have hq : ops[i]? = some ops[i] := Array.getElem?_eq_getElem hi
      have hm : i ∈ Region.ready .any ops t := by
        refine mem_ready.2 ⟨?_, _, hq, fun e he _ => ?_⟩
        · rw [Array.getD_eq_getD_getElem?, Array.getElem?_eq_getElem (by omega)] at c ⊢
          exact c
        · rw [List.all_eq_true] at hd
          have := hd i (List.mem_range.2 hi)
          rw [hq] at this
          simp only [Option.map_some, Option.getD_some, Array.all_eq_true_iff_forall_mem, decide_eq_true_eq] at this
          have l := this e he
          exact ih e.on l (by omega)
      rw [hr] at hm
      cases hm
    · rfl

/-- The operations. -/
structure TOps (ops : Array Oper) : Prop where
  sz : ops.size = 14
  o0 : ∃ q, ops[0]? = some q ∧ q.op = .fieldAddr 26 (.tmp 13) 0 ∧ q.dst = some 81 ∧ q.guard = none
  o1 : ∃ q, ops[1]? = some q ∧ q.op = .load 24 (.tmp 81) ∧ q.dst = some 82 ∧ q.guard = none
  o2 : ∃ q, ops[2]? = some q ∧ q.op = .move (.tmp 19) ∧ q.dst = some 83 ∧ q.guard = none
  o3 : ∃ q, ops[3]? = some q ∧ q.op = .buildSlice 24 1 #[(0, .tmp 83)] ∧ q.dst = some 84 ∧ q.guard = none
  o4 : ∃ q, ops[4]? = some q ∧ q.op = .call { callee := .builtin .append, args := #[.tmp 82, .tmp 84], argTypes := #[24, 24] } ∧ q.dst = some 85 ∧ q.guard = none ∧ q.type = 24
  o5 : ∃ q, ops[5]? = some q ∧ q.op = .fieldAddr 26 (.tmp 13) 1 ∧ q.dst = some 86 ∧ q.guard = none
  o6 : ∃ q, ops[6]? = some q ∧ q.op = .load 24 (.tmp 86) ∧ q.dst = some 87 ∧ q.guard = none
  o7 : ∃ q, ops[7]? = some q ∧ q.op = .move (.tmp 17) ∧ q.dst = some 88 ∧ q.guard = none
  o8 : ∃ q, ops[8]? = some q ∧ q.op = .buildSlice 24 1 #[(0, .tmp 88)] ∧ q.dst = some 89 ∧ q.guard = none
  o9 : ∃ q, ops[9]? = some q ∧ q.op = .call { callee := .builtin .append, args := #[.tmp 87, .tmp 89], argTypes := #[24, 24] } ∧ q.dst = some 90 ∧ q.guard = none ∧ q.type = 24
  o10 : ∃ q, ops[10]? = some q ∧ q.op = .fieldAddr 26 (.tmp 13) 0 ∧ q.dst = some 91 ∧ q.guard = none
  o11 : ∃ q, ops[11]? = some q ∧ q.op = .store 24 (.tmp 91) (.tmp 85) ∧ q.dst = none ∧ q.guard = none
  o12 : ∃ q, ops[12]? = some q ∧ q.op = .fieldAddr 26 (.tmp 13) 1 ∧ q.dst = some 92 ∧ q.guard = none
  o13 : ∃ q, ops[13]? = some q ∧ q.op = .store 24 (.tmp 92) (.tmp 90) ∧ q.dst = none ∧ q.guard = none
  d1 : ∀ t, 1 ∈ Region.ready .any ops t → t.getD 0 false = true
  d3 : ∀ t, 3 ∈ Region.ready .any ops t → t.getD 2 false = true
  d4 : ∀ t, 4 ∈ Region.ready .any ops t → t.getD 1 false = true ∧ t.getD 3 false = true
  d6 : ∀ t, 6 ∈ Region.ready .any ops t → t.getD 5 false = true
  d8 : ∀ t, 8 ∈ Region.ready .any ops t → t.getD 7 false = true
  d9 : ∀ t, 9 ∈ Region.ready .any ops t → t.getD 6 false = true ∧ t.getD 8 false = true
  d11 : ∀ t, 11 ∈ Region.ready .any ops t → t.getD 10 false = true ∧ t.getD 4 false = true
  d13 : ∀ t, 13 ∈ Region.ready .any ops t → t.getD 12 false = true ∧ t.getD 9 false = true
  all : ∀ t : Array Bool, t.size = 14 → Region.ready .any ops t = [] → ∀ i, i < 14 → t.getD i false = true

/-- What holds where these operations are done. -/
structure TI (w0 : World) (b : Nat) (va vx : Value) (A X : List Nat) (p x : Nat) (l0 l1 l2 l3 l4 l5 l6 l7 l8 l9 l10 l11 l12 l13 : Bool) (u : Nat → Value) (v : World) : Prop where
  fr : Fr (fun g => g = b + 1 ∨ va.ownBlock = some g ∨ vx.ownBlock = some g) w0 v
  r13 : v.heap[b + 1]? = some (.cells #[cond l11 (u 4) va, cond l13 (u 9) vx] 26)
  aA : UW v (cond l4 (u 4) va) (cond l4 (A ++ [p]) A)
  aX : UW v (cond l9 (u 9) vx) (cond l9 (X ++ [x]) X)
  s3 : l3 = true → ∃ c, u 3 = .slice (some ⟨c, 0, none⟩) 1 1 ∧ v.heap[c]? = some (.cells #[.int .u64 (p : Int)] 22) ∧ w0.heap.size ≤ c
  s8 : l8 = true → ∃ c, u 8 = .slice (some ⟨c, 0, none⟩) 1 1 ∧ v.heap[c]? = some (.cells #[.int .u64 (x : Int)] 22) ∧ w0.heap.size ≤ c
  oA : l4 = true → ∀ g, (u 4).ownBlock = some g → va.ownBlock = some g ∨ w0.heap.size ≤ g
  oX : l9 = true → ∀ g, (u 9).ownBlock = some g → vx.ownBlock = some g ∨ w0.heap.size ≤ g
  ap : l4 = true → l9 = true → ∀ g, (u 4).ownBlock = some g → (u 9).ownBlock = some g → False
  h0 : l0 = true → u 0 = .pointer (some ⟨b + 1, 0, none⟩)
  h1 : l1 = true → u 1 = va
  h2 : l2 = true → u 2 = .int .u64 (p : Int)
  h5 : l5 = true → u 5 = .pointer (some ⟨b + 1, 1, none⟩)
  h6 : l6 = true → u 6 = vx
  h7 : l7 = true → u 7 = .int .u64 (x : Int)
  h10 : l10 = true → u 10 = .pointer (some ⟨b + 1, 0, none⟩)
  h12 : l12 = true → u 11 = .pointer (some ⟨b + 1, 1, none⟩)
  m4 : l4 = true → l1 = true
  m9 : l9 = true → l6 = true
  m11 : l11 = true → l4 = true
  m13 : l13 = true → l9 = true

section
variable {w0 v v' : World} {b : Nat} {va vx : Value} {A X : List Nat} {p x : Nat} {l0 l1 l2 l3 l4 l5 l6 l7 l8 l9 l10 l11 l12 l13 : Bool} {u : Nat → Value}
theorem TI.kp (h : TI w0 b va vx A X p x l0 l1 l2 l3 l4 l5 l6 l7 l8 l9 l10 l11 l12 l13 u v) (k : Kp v v') : TI w0 b va vx A X p x l0 l1 l2 l3 l4 l5 l6 l7 l8 l9 l10 l11 l12 l13 u v' :=
  ⟨h.fr.trans (k.fr _), (k.block _ (lt_of_row h.r13)).trans h.r13, h.aA.kp k, h.aX.kp k, (fun e => by obtain ⟨c, a1, a2, a3⟩ := h.s3 e; exact ⟨c, a1, (k.block _ (lt_of_row a2)).trans a2, a3⟩), (fun e => by obtain ⟨c, a1, a2, a3⟩ := h.s8 e; exact ⟨c, a1, (k.block _ (lt_of_row a2)).trans a2, a3⟩), h.oA, h.oX, h.ap, h.h0, h.h1, h.h2, h.h5, h.h6, h.h7, h.h10, h.h12, h.m4, h.m9, h.m11, h.m13⟩
theorem Fr.more {S T : Nat → Prop} (h : Fr T w0 v) (k : Fr S v v') (hS : ∀ g, S g → T g) : Fr T w0 v' := h.trans2 k (fun g _ s => hS g s)
end


set_option maxHeartbeats 4000000 in
/-- Both appends, whatever their order: the lists are each one word longer. -/
theorem two_appends {W : World} {b : Nat} {va vx : Value} {A X : List Nat} {p x id : Nat} {ops : Array Oper} {Q : Exit → Act → World → Prop} {a : Act} {w0 : World} (H : TOps ops) (T : TB W b va vx A X w0) (hA : A.length ≤ 3) (hX : X.length ≤ 3) (hx : x < 18446744073709551616)
    (hs : 93 ≤ a.tmps.size) (e13 : a.eval (.tmp 13) = .pointer (some ⟨b + 1, 0, none⟩)) (e19 : a.eval (.tmp 19) = .int .u64 (p : Int)) (e17 : a.eval (.tmp 17) = .int .u64 (x : Int))
    (done : ∀ u va' vx' w', TB W b va' vx' (A ++ [p]) (X ++ [x]) w' → Fr (fun g => g = b + 1 ∨ va.ownBlock = some g ∨ vx.ownBlock = some g) w0 w' → Q .normal (layA a 81 12 u) w') : (Code.region id ops true).wp Try.prog Q a w0 := by
  have lb := lt_of_row T.r13
  have ev : ∀ (u : Nat → Value) k, k < 12 → (layA a 81 12 u).eval (.tmp (81 + k)) = u k := fun u k hk => layA_in a 81 12 k u hk (by omega)
  refine wp_region_inv mixed (fun listed a' v => ∃ (l0 l1 l2 l3 l4 l5 l6 l7 l8 l9 l10 l11 l12 l13 : Bool) (u : Nat → Value), listed = #[l0, l1, l2, l3, l4, l5, l6, l7, l8, l9, l10, l11, l12, l13] ∧ a' = layA a 81 12 u ∧ TI w0 b va vx A X p x l0 l1 l2 l3 l4 l5 l6 l7 l8 l9 l10 l11 l12 l13 u v) ?_ ?_ ?_
  · rw [H.sz]
    refine ⟨false, false, false, false, false, false, false, false, false, false, false, false, false, false, fun k => a.eval (.tmp (81 + k)), rfl, (layA_self a 81 12 (by omega)).symm, ?_⟩
    have k : Kp w0 w0.drew := (Kp.refl w0).drew
    have T := T.keep k
    exact ⟨k.fr _, T.r13, T.a, T.x, (fun e => by cases e), (fun e => by cases e), (fun e => by cases e), (fun e => by cases e), (fun e => by cases e), (fun e => by cases e), (fun e => by cases e), (fun e => by cases e), (fun e => by cases e), (fun e => by cases e), (fun e => by cases e), (fun e => by cases e), (fun e => by cases e), (fun e => by cases e), (fun e => by cases e), (fun e => by cases e), (fun e => by cases e)⟩
  · rintro listed a' v i ⟨l0, l1, l2, l3, l4, l5, l6, l7, l8, l9, l10, l11, l12, l13, u, rfl, rfl, h⟩ hi
    have hlt : i < 14 := by obtain ⟨_, q, hq, _⟩ := mem_ready.1 hi; have := (Array.getElem?_eq_some_iff.1 hq).1; rw [H.sz] at this; exact this
    have hl := (mem_ready.1 hi).1
    have hsz : w0.heap.size ≤ v.heap.size := h.fr.size
    rcases (by omega : i = 0 ∨ i = 1 ∨ i = 2 ∨ i = 3 ∨ i = 4 ∨ i = 5 ∨ i = 6 ∨ i = 7 ∨ i = 8 ∨ i = 9 ∨ i = 10 ∨ i = 11 ∨ i = 12 ∨ i = 13) with rfl | rfl | rfl | rfl | rfl | rfl | rfl | rfl | rfl | rfl | rfl | rfl | rfl | rfl
    · obtain ⟨q, hq, ho, hd, hg⟩ := H.o0
      refine wpOp_of hq hg ?_
      refine wp_field0 ho ((layA_out a 81 12 13 u (by decide)).trans e13) ?_
      rw [hd, show (some 81 : Option Tmp) = some (81 + 0) from rfl, layA_put a 81 12 0 u _ (by decide)]
      exact ⟨true, l1, l2, l3, l4, l5, l6, l7, l8, l9, l10, l11, l12, l13, _, rfl, rfl, ⟨h.fr, h.r13, h.aA, h.aX, h.s3, h.s8, h.oA, h.oX, h.ap, (fun _ => rfl), h.h1, h.h2, h.h5, h.h6, h.h7, h.h10, h.h12, h.m4, h.m9, h.m11, h.m13⟩⟩
    · obtain ⟨q, hq, ho, hd, hg⟩ := H.o1
      refine wpOp_of hq hg ?_
      have e0 : l0 = true := H.d1 _ hi
      have z1 : l1 = false := hl
      have z4 : l4 = false := by cases l4; rfl; have := h.m4 rfl; rw [z1] at this; cases this
      have z11 : l11 = false := by cases l11; rfl; have := h.m11 rfl; rw [z4] at this; cases this
      refine wp_load_u (v := va) ho ((ev u 0 (by decide)).trans (h.h0 e0)) (by rw [cell_of_row _ _ 0 _ _ _ h.r13, z11]; rfl) ?_
      rw [hd, show (some 82 : Option Tmp) = some (81 + 1) from rfl, layA_put a 81 12 1 u _ (by decide)]
      exact ⟨l0, true, l2, l3, l4, l5, l6, l7, l8, l9, l10, l11, l12, l13, _, rfl, rfl, ⟨h.fr, h.r13, h.aA, h.aX, h.s3, h.s8, h.oA, h.oX, h.ap, h.h0, (fun _ => rfl), h.h2, h.h5, h.h6, h.h7, h.h10, h.h12, (fun _ => rfl), h.m9, h.m11, h.m13⟩⟩
    · obtain ⟨q, hq, ho, hd, hg⟩ := H.o2
      refine wpOp_of hq hg ?_
      refine wp_move ho ?_
      rw [layA_out a 81 12 19 u (by decide), e19]
      rw [hd, show (some 83 : Option Tmp) = some (81 + 2) from rfl, layA_put a 81 12 2 u _ (by decide)]
      exact ⟨l0, l1, true, l3, l4, l5, l6, l7, l8, l9, l10, l11, l12, l13, _, rfl, rfl, ⟨h.fr, h.r13, h.aA, h.aX, h.s3, h.s8, h.oA, h.oX, h.ap, h.h0, h.h1, (fun _ => rfl), h.h5, h.h6, h.h7, h.h10, h.h12, h.m4, h.m9, h.m11, h.m13⟩⟩
    · obtain ⟨q, hq, ho, hd, hg⟩ := H.o3
      refine wpOp_of hq hg ?_
      have e2 : l2 = true := H.d3 _ hi
      refine wp_build_u ho ((ev u 2 (by decide)).trans (h.h2 e2)) ?_
      rw [hd, show (some 84 : Option Tmp) = some (81 + 3) from rfl, layA_put a 81 12 3 u _ (by decide)]
      have h := h.kp ((Kp.refl v).alloc (.cells #[.int .u64 (p : Int)] 22))
      have sz0 : w0.heap.size ≤ v.heap.size := hsz
      exact ⟨l0, l1, l2, true, l4, l5, l6, l7, l8, l9, l10, l11, l12, l13, _, rfl, rfl, ⟨h.fr, h.r13, h.aA, h.aX, (fun _ => ⟨v.heap.size, rfl, heap_alloc_new v _, sz0⟩), h.s8, h.oA, h.oX, h.ap, h.h0, h.h1, h.h2, h.h5, h.h6, h.h7, h.h10, h.h12, h.m4, h.m9, h.m11, h.m13⟩⟩
    · obtain ⟨q, hq, ho, hd, hg, hty⟩ := H.o4
      refine wpOp_of hq hg ?_
      have e1 : l1 = true := (H.d4 _ hi).1
      have e3 : l3 = true := (H.d4 _ hi).2
      have z4 : l4 = false := hl
      subst z4
      have z11 : l11 = false := by cases l11; rfl; have := h.m11 rfl; cases this
      subst z11
      obtain ⟨c, a1, a2, a3⟩ := h.s3 e3
      obtain ⟨v1, w1, r1, r2, r3, r4⟩ := UW.snoc h.aA p c a2 (by show A.length ≤ 1000; omega)
      refine wp_append_of r1 (.tmp 82) (.tmp 84) ho hty ((ev u 1 (by decide)).trans (h.h1 e1)) ((ev u 3 (by decide)).trans a1) ?_
      rw [hd, show (some 85 : Option Tmp) = some (81 + 4) from rfl, layA_put a 81 12 4 u _ (by decide)]
      have oa : ∀ g, v1.ownBlock = some g → va.ownBlock = some g ∨ w0.heap.size ≤ g := fun g e => by
        rcases r4 with r4 | r4
        · exact .inl (r4.symm.trans e)
        · rw [r4] at e; cases e; exact .inr hsz
      have kX : ∀ g, (cond l9 (u 9) vx).ownBlock = some g → ¬ va.ownBlock = some g := fun g e e' => by
        cases l9
        · exact T.ap g e' e
        · rcases h.oX rfl g e with e2 | e2
          · exact T.ap g e' e2
          · have := T.a.lt e'; omega
      have kc : ∀ c, w0.heap.size ≤ c → ¬ va.ownBlock = some c := fun c hc e => by have := T.a.lt e; omega
      exact ⟨l0, l1, l2, l3, true, l5, l6, l7, l8, l9, l10, false, l12, l13, _, rfl, rfl, ⟨h.fr.more r3 (fun g e => .inr (.inl e)), (r3.block _ (lt_of_row h.r13) (fun e => by have := T.fa _ e; omega)).trans h.r13, r2, h.aX.fr r3 kX, (fun e => ⟨c, a1, (r3.block _ (lt_of_row a2) (kc c a3)).trans a2, a3⟩), (fun e => by obtain ⟨c, b1, b2, b3⟩ := h.s8 e; exact ⟨c, b1, (r3.block _ (lt_of_row b2) (kc c b3)).trans b2, b3⟩), (fun _ => oa), h.oX, (fun _ e9 g f1 f2 => by subst e9; rcases r4 with r4 | r4; exact kX g f2 (r4.symm.trans f1); have f1 : v1.ownBlock = some g := f1; rw [r4] at f1; cases f1; have := UW.lt h.aX f2; omega), h.h0, h.h1, h.h2, h.h5, h.h6, h.h7, h.h10, h.h12, (fun _ => e1), h.m9, (fun e => by cases e), h.m13⟩⟩
    · obtain ⟨q, hq, ho, hd, hg⟩ := H.o5
      refine wpOp_of hq hg ?_
      refine wp_field1 ho ((layA_out a 81 12 13 u (by decide)).trans e13) ?_
      rw [hd, show (some 86 : Option Tmp) = some (81 + 5) from rfl, layA_put a 81 12 5 u _ (by decide)]
      exact ⟨l0, l1, l2, l3, l4, true, l6, l7, l8, l9, l10, l11, l12, l13, _, rfl, rfl, ⟨h.fr, h.r13, h.aA, h.aX, h.s3, h.s8, h.oA, h.oX, h.ap, h.h0, h.h1, h.h2, (fun _ => rfl), h.h6, h.h7, h.h10, h.h12, h.m4, h.m9, h.m11, h.m13⟩⟩
    · obtain ⟨q, hq, ho, hd, hg⟩ := H.o6
      refine wpOp_of hq hg ?_
      have e5 : l5 = true := H.d6 _ hi
      have z6 : l6 = false := hl
      have z9 : l9 = false := by cases l9; rfl; have := h.m9 rfl; rw [z6] at this; cases this
      have z13 : l13 = false := by cases l13; rfl; have := h.m13 rfl; rw [z9] at this; cases this
      refine wp_load_u (v := vx) ho ((ev u 5 (by decide)).trans (h.h5 e5)) (by rw [cell_of_row _ _ 1 _ _ _ h.r13, z13]; rfl) ?_
      rw [hd, show (some 87 : Option Tmp) = some (81 + 6) from rfl, layA_put a 81 12 6 u _ (by decide)]
      exact ⟨l0, l1, l2, l3, l4, l5, true, l7, l8, l9, l10, l11, l12, l13, _, rfl, rfl, ⟨h.fr, h.r13, h.aA, h.aX, h.s3, h.s8, h.oA, h.oX, h.ap, h.h0, h.h1, h.h2, h.h5, (fun _ => rfl), h.h7, h.h10, h.h12, h.m4, (fun _ => rfl), h.m11, h.m13⟩⟩
    · obtain ⟨q, hq, ho, hd, hg⟩ := H.o7
      refine wpOp_of hq hg ?_
      refine wp_move ho ?_
      rw [layA_out a 81 12 17 u (by decide), e17]
      rw [hd, show (some 88 : Option Tmp) = some (81 + 7) from rfl, layA_put a 81 12 7 u _ (by decide)]
      exact ⟨l0, l1, l2, l3, l4, l5, l6, true, l8, l9, l10, l11, l12, l13, _, rfl, rfl, ⟨h.fr, h.r13, h.aA, h.aX, h.s3, h.s8, h.oA, h.oX, h.ap, h.h0, h.h1, h.h2, h.h5, h.h6, (fun _ => rfl), h.h10, h.h12, h.m4, h.m9, h.m11, h.m13⟩⟩
    · obtain ⟨q, hq, ho, hd, hg⟩ := H.o8
      refine wpOp_of hq hg ?_
      have e7 : l7 = true := H.d8 _ hi
      refine wp_build_u ho ((ev u 7 (by decide)).trans (h.h7 e7)) ?_
      rw [hd, show (some 89 : Option Tmp) = some (81 + 8) from rfl, layA_put a 81 12 8 u _ (by decide)]
      have h := h.kp ((Kp.refl v).alloc (.cells #[.int .u64 (x : Int)] 22))
      exact ⟨l0, l1, l2, l3, l4, l5, l6, l7, true, l9, l10, l11, l12, l13, _, rfl, rfl, ⟨h.fr, h.r13, h.aA, h.aX, h.s3, (fun _ => ⟨v.heap.size, rfl, heap_alloc_new v _, hsz⟩), h.oA, h.oX, h.ap, h.h0, h.h1, h.h2, h.h5, h.h6, h.h7, h.h10, h.h12, h.m4, h.m9, h.m11, h.m13⟩⟩
    · obtain ⟨q, hq, ho, hd, hg, hty⟩ := H.o9
      refine wpOp_of hq hg ?_
      have e6 : l6 = true := (H.d9 _ hi).1
      have e8 : l8 = true := (H.d9 _ hi).2
      have z9 : l9 = false := hl
      subst z9
      have z13 : l13 = false := by cases l13; rfl; have := h.m13 rfl; cases this
      subst z13
      obtain ⟨c, a1, a2, a3⟩ := h.s8 e8
      obtain ⟨v1, w1, r1, r2, r3, r4⟩ := UW.snoc h.aX x c a2 (by show X.length ≤ 1000; omega)
      refine wp_append_of r1 (.tmp 87) (.tmp 89) ho hty ((ev u 6 (by decide)).trans (h.h6 e6)) ((ev u 8 (by decide)).trans a1) ?_
      rw [hd, show (some 90 : Option Tmp) = some (81 + 9) from rfl, layA_put a 81 12 9 u _ (by decide)]
      have ox : ∀ g, v1.ownBlock = some g → vx.ownBlock = some g ∨ w0.heap.size ≤ g := fun g e => by
        rcases r4 with r4 | r4
        · exact .inl (r4.symm.trans e)
        · rw [r4] at e; cases e; exact .inr hsz
      have kA : ∀ g, (cond l4 (u 4) va).ownBlock = some g → ¬ vx.ownBlock = some g := fun g e e' => by
        cases l4
        · exact T.ap g e e'
        · rcases h.oA rfl g e with e2 | e2
          · exact T.ap g e2 e'
          · have := T.x.lt e'; omega
      have kc : ∀ c, w0.heap.size ≤ c → ¬ vx.ownBlock = some c := fun c hc e => by have := T.x.lt e; omega
      exact ⟨l0, l1, l2, l3, l4, l5, l6, l7, l8, true, l10, l11, l12, false, _, rfl, rfl, ⟨h.fr.more r3 (fun g e => .inr (.inr e)), (r3.block _ (lt_of_row h.r13) (fun e => by have := T.fx _ e; omega)).trans h.r13, h.aA.fr r3 kA, r2, (fun e => by obtain ⟨c, b1, b2, b3⟩ := h.s3 e; exact ⟨c, b1, (r3.block _ (lt_of_row b2) (kc c b3)).trans b2, b3⟩), (fun e => ⟨c, a1, (r3.block _ (lt_of_row a2) (kc c a3)).trans a2, a3⟩), h.oA, (fun _ => ox), (fun e4 _ g f1 f2 => by subst e4; rcases r4 with r4 | r4; exact kA g f1 (r4.symm.trans f2); have f2 : v1.ownBlock = some g := f2; rw [r4] at f2; cases f2; have := UW.lt h.aA f1; omega), h.h0, h.h1, h.h2, h.h5, h.h6, h.h7, h.h10, h.h12, h.m4, (fun _ => e6), h.m11, (fun e => by cases e)⟩⟩
    · obtain ⟨q, hq, ho, hd, hg⟩ := H.o10
      refine wpOp_of hq hg ?_
      refine wp_field0 ho ((layA_out a 81 12 13 u (by decide)).trans e13) ?_
      rw [hd, show (some 91 : Option Tmp) = some (81 + 10) from rfl, layA_put a 81 12 10 u _ (by decide)]
      exact ⟨l0, l1, l2, l3, l4, l5, l6, l7, l8, l9, true, l11, l12, l13, _, rfl, rfl, ⟨h.fr, h.r13, h.aA, h.aX, h.s3, h.s8, h.oA, h.oX, h.ap, h.h0, h.h1, h.h2, h.h5, h.h6, h.h7, (fun _ => rfl), h.h12, h.m4, h.m9, h.m11, h.m13⟩⟩
    · obtain ⟨q, hq, ho, hd, hg⟩ := H.o11
      refine wpOp_of hq hg ?_
      have e10 : l10 = true := (H.d11 _ hi).1
      have e4 : l4 = true := (H.d11 _ hi).2
      subst e4
      refine wp_store_u ho hd ((ev u 10 (by decide)).trans (h.h10 e10)) (ev u 4 (by decide)) (UW.shape h.aA) (by rw [cell_of_row _ _ 0 _ _ _ h.r13]; rfl) (frozen_of_row _ _ 0 _ _ h.r13) ?_
      have r : (v.setCell ⟨b + 1, 0, none⟩ (u 4)).heap[b + 1]? = some (.cells #[u 4, cond l13 (u 9) vx] 26) := heap_setCell_same v (b + 1) 0 _ _ (u 4) h.r13
      have f : Fr (· = b + 1) v (v.setCell ⟨b + 1, 0, none⟩ (u 4)) := (Fr.refl _ v).set _ _ rfl
      have nA : ∀ g, (u 4).ownBlock = some g → ¬ g = b + 1 := fun g e e' => by rcases h.oA rfl g e with e2 | e2; have := T.fa g e2; omega; omega
      have nX : ∀ g, (cond l9 (u 9) vx).ownBlock = some g → ¬ g = b + 1 := fun g e e' => by
        cases l9
        · have := T.fx g e; omega
        · rcases h.oX rfl g e with e2 | e2
          · have := T.fx g e2; omega
          · omega
      exact ⟨l0, l1, l2, l3, true, l5, l6, l7, l8, l9, l10, true, l12, l13, u, rfl, rfl, ⟨h.fr.more f (fun g e => .inl e), r, h.aA.fr f nA, h.aX.fr f nX, (fun e => by obtain ⟨c, b1, b2, b3⟩ := h.s3 e; exact ⟨c, b1, (f.block _ (lt_of_row b2) (fun e => by omega)).trans b2, b3⟩), (fun e => by obtain ⟨c, b1, b2, b3⟩ := h.s8 e; exact ⟨c, b1, (f.block _ (lt_of_row b2) (fun e => by omega)).trans b2, b3⟩), h.oA, h.oX, h.ap, h.h0, h.h1, h.h2, h.h5, h.h6, h.h7, h.h10, h.h12, h.m4, h.m9, (fun _ => rfl), h.m13⟩⟩
    · obtain ⟨q, hq, ho, hd, hg⟩ := H.o12
      refine wpOp_of hq hg ?_
      refine wp_field1 ho ((layA_out a 81 12 13 u (by decide)).trans e13) ?_
      rw [hd, show (some 92 : Option Tmp) = some (81 + 11) from rfl, layA_put a 81 12 11 u _ (by decide)]
      exact ⟨l0, l1, l2, l3, l4, l5, l6, l7, l8, l9, l10, l11, true, l13, _, rfl, rfl, ⟨h.fr, h.r13, h.aA, h.aX, h.s3, h.s8, h.oA, h.oX, h.ap, h.h0, h.h1, h.h2, h.h5, h.h6, h.h7, h.h10, (fun _ => rfl), h.m4, h.m9, h.m11, h.m13⟩⟩
    · obtain ⟨q, hq, ho, hd, hg⟩ := H.o13
      refine wpOp_of hq hg ?_
      have e12 : l12 = true := (H.d13 _ hi).1
      have e9 : l9 = true := (H.d13 _ hi).2
      subst e9
      refine wp_store_u ho hd ((ev u 11 (by decide)).trans (h.h12 e12)) (ev u 9 (by decide)) (UW.shape h.aX) (by rw [cell_of_row _ _ 1 _ _ _ h.r13]; rfl) (frozen_of_row _ _ 1 _ _ h.r13) ?_
      have r : (v.setCell ⟨b + 1, 1, none⟩ (u 9)).heap[b + 1]? = some (.cells #[cond l11 (u 4) va, u 9] 26) := heap_setCell_same v (b + 1) 1 _ _ (u 9) h.r13
      have f : Fr (· = b + 1) v (v.setCell ⟨b + 1, 1, none⟩ (u 9)) := (Fr.refl _ v).set _ _ rfl
      have nX : ∀ g, (u 9).ownBlock = some g → ¬ g = b + 1 := fun g e e' => by rcases h.oX rfl g e with e2 | e2; have := T.fx g e2; omega; omega
      have nA : ∀ g, (cond l4 (u 4) va).ownBlock = some g → ¬ g = b + 1 := fun g e e' => by
        cases l4
        · have := T.fa g e; omega
        · rcases h.oA rfl g e with e2 | e2
          · have := T.fa g e2; omega
          · omega
      exact ⟨l0, l1, l2, l3, l4, l5, l6, l7, l8, true, l10, l11, l12, true, u, rfl, rfl, ⟨h.fr.more f (fun g e => .inl e), r, h.aA.fr f nA, h.aX.fr f nX, (fun e => by obtain ⟨c, b1, b2, b3⟩ := h.s3 e; exact ⟨c, b1, (f.block _ (lt_of_row b2) (fun e => by omega)).trans b2, b3⟩), (fun e => by obtain ⟨c, b1, b2, b3⟩ := h.s8 e; exact ⟨c, b1, (f.block _ (lt_of_row b2) (fun e => by omega)).trans b2, b3⟩), h.oA, h.oX, h.ap, h.h0, h.h1, h.h2, h.h5, h.h6, h.h7, h.h10, h.h12, h.m4, h.m9, h.m11, (fun _ => rfl)⟩⟩
  · rintro listed a' v ⟨l0, l1, l2, l3, l4, l5, l6, l7, l8, l9, l10, l11, l12, l13, u, rfl, rfl, h⟩ hr
    have al := H.all _ rfl hr
    have e4 : l4 = true := al 4 (by decide)
    have e9 : l9 = true := al 9 (by decide)
    have e11 : l11 = true := al 11 (by decide)
    have e13' : l13 = true := al 13 (by decide)
    subst e4 e9 e11 e13'
    have lo := T.lo
    have fS : ∀ g, (g = b + 1 ∨ va.ownBlock = some g ∨ vx.ownBlock = some g) → b + 1 ≤ g := fun g e => by
      rcases e with e | e | e
      · omega
      · have := T.fa g e; omega
      · have := T.fx g e; omega
    have fw : ∀ g, g < b + 1 → v.heap[g]? = w0.heap[g]? := fun g hg => h.fr.block g (by omega) (fun e => by have := fS g e; omega)
    refine done u (u 4) (u 9) v ⟨h.fr.kp T.kp (fun g e => by have := fS g e; omega), lo, (fw b (by omega)).trans T.r12, h.r13, h.aA, h.aX, ?_, ?_, h.ap rfl rfl, ?_, by rw [List.length_append]; show A.length + 1 ≤ 4; omega, by rw [List.length_append]; show X.length + 1 ≤ 4; omega⟩ h.fr
    · intro g e
      rcases h.oA rfl g e with e2 | e2
      · exact T.fa g e2
      · omega
    · intro g e
      rcases h.oX rfl g e with e2 | e2
      · exact T.fx g e2
      · omega
    · intro y hy
      rcases List.mem_append.1 hy with h1 | h1
      · exact T.wx y h1
      · rw [List.mem_singleton] at h1; rw [h1]; exact hx

end Go.Proofs.Ytcbciehffgaapaa
