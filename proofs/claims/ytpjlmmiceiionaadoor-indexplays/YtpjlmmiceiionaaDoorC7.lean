/- index: a loop over (set).each: what the iterator says, what the loop owes. -/
import Derived.Test.YtpjlmmiceiionaaDoorJ22
import Derived.Test.YtpjlmmiceiionaaDoorU1
import Derived.RangeFuncNested
import Derived.RangeFuncCalls
import Derived.Shelf.RegionOpen
import Derived.OwnWalkIn
import Derived.TacticsInMore
import Derived.LoopNIn
import Derived.LoopIn
namespace Go.Proofs.YtpjlmmiceiionaaDoor
open Go.RowKit
set_option maxRecDepth 10000

/-- All lies as it lay but what is no cells and lies from B on. -/
structure Kq (B : Nat) (W W' : World) : Prop where
  os : W'.os = W.os
  tape : W'.tape = W.tape
  output : W'.output = W.output
  size : W.heap.size ≤ W'.heap.size
  keep : ∀ k o, W.heap[k]? = some o → (k < B ∨ o.isCells = true) → W'.heap[k]? = some o
theorem Kp.kq {W W' : World} (B : Nat) (h : Kp W W') : Kq B W W' := ⟨h.os, h.tape, h.output, h.size, fun k _ hk _ => (h.block k (Array.getElem?_eq_some_iff.1 hk).1).trans hk⟩
theorem Kq.put {W : World} {B l : Nat} {o : Obj} (o' : Obj) (hl : W.heap[l]? = some o) (hB : B ≤ l) (hc : o.isCells = false) : Kq B W (W.putObj l o') :=
  ⟨rfl, rfl, rfl, by simp, fun k q hk hq => by
    by_cases e : k = l
    · subst e
      rw [hl] at hk
      cases hk
      rcases hq with h | h
      · omega
      · rw [hc] at h; cases h
    · exact (World.putObj_heap_other e).trans hk⟩
theorem Kq.kp {W0 W W' : World} {B : Nat} (h : Kq B W W') (k : Kp W0 W) (hB : W0.heap.size ≤ B) : Kp W0 W' :=
  ⟨h.os.trans k.os, h.tape.trans k.tape, h.output.trans k.output, Nat.le_trans k.size h.size, fun i hi => by
    have hb := k.block i hi
    have hx : W.heap[i]? = some W0.heap[i] := by rw [hb]; exact Array.getElem?_eq_getElem hi
    rw [h.keep i _ hx (.inl (by omega)), Array.getElem?_eq_getElem hi]⟩
theorem Kq.cell {W W' : World} {B : Nat} (h : Kq B W W') {p : Addr} {v : Value} (hc : W.cell? p = some v) : W'.cell? p = some v := by
  obtain ⟨o, ho, hoc⟩ := cells_of_cell hc
  rw [World.cell?_of_block (a := p) ((h.keep _ _ ho (.inr hoc)).trans ho.symm)]
  exact hc
/-- The words lie as they lay. -/
structure KWd (W W' : World) : Prop where
  size : W.heap.size ≤ W'.heap.size
  same : ∀ (k : Nat) cs q, W.heap[k]? = some (Obj.cells cs 101 q) → W'.heap[k]? = some (Obj.cells cs 101 q)
  tab : TAB W → TAB W'
theorem Kp.kwd {W W' : World} (h : Kp W W') : KWd W W' := ⟨h.size, fun k _ _ hk => (h.block k (Array.getElem?_eq_some_iff.1 hk).1).trans hk, fun T => T.kp h⟩
theorem Kp.keepsFrom {W W' : World} (B : Nat) (h : Kp W W') : KeepsFrom B W W' := ⟨h.size, fun k _ _ hk _ => (h.block k (Array.getElem?_eq_some_iff.1 hk).1).trans hk⟩
theorem KWd.trans {A B C : World} (h : KWd A B) (k : KWd B C) : KWd A C := ⟨Nat.le_trans h.size k.size, fun i c q hi => k.same i c q (h.same i c q hi), fun T => k.tab (h.tab T)⟩
theorem KWd.put {W : World} {l : Nat} {o : Obj} (o' : Obj) (hl : W.heap[l]? = some o) (hc : o.isCells = false) : KWd W (W.putObj l o') :=
  ⟨by simp, fun k cs q hk => by
    by_cases e : k = l
    · subst e
      rw [hl] at hk
      cases hk
      cases hc
    · exact (World.putObj_heap_other e).trans hk, fun T => ⟨by simpa using T.lt, fun i hi => (Kq.put (B := 0) o' hl (Nat.zero_le _) hc).cell (T.cell i hi)⟩⟩

/-- The set v hands on xs, one by one, in whatever later world, whatever a round does but to words. -/
def EachOk (w : World) (v : Value) (xs : List Nat) : Prop := ∀ (n l : Nat) (J Jx : List Nat → World → Prop) (W : World), Kp w W → (∀ s A B, J s A → Kp A B → J s B) →
  (∀ pre x W1, J pre W1 → pre ++ [x] <+: xs → YieldAt Fence.wide n Tryd.prog l #[.int .i64 ((x : Nat) : Int)] W1 fun e W' => (e = .returned (.bool true) ∧ J (pre ++ [x]) W' ∧ KWd W1 W') ∨ (e = .returned (.bool false) ∧ Jx (pre ++ [x]) W')) →
  J [] W → CallsIn Fence.wide (n + 1) Tryd.prog 38 #[v, .func (.yield l) #[] #[]] W fun e W' => (∃ u, e = .returned u) ∧ (J xs W' ∨ ∃ pre, Jx pre W')

/-- How a round may end. -/
def RndEnd (w0 w : World) (I0 : List Nat → World → Prop) (Ix : World → Prop) (xs : List Nat) (W : World) : Exit → Act → World → Prop
  | .normal, _, W' => KeepsFrom w.heap.size W W' ∧ KWd W W' ∧ Kp w0 W' ∧ I0 xs W'
  | .ret, _, W' => KeepsFrom w.heap.size W W' ∧ Ix W'
  | _, _, _ => False

theorem enters_each (args : Array Value) (w : World) : (callFunc 38 args).run Tryd.prog w = .ok (.enter 38 args) w :=
  enters_of Tryd.func38 (by kernel_rfl) rfl args w

set_option maxHeartbeats 1000000 in
theorem wp_each {g : Operand} {ps : Array Tmp} {assign body : Code} {Q : Exit → Act → World → Prop} {a : Act} {w0 w : World} {v : Value} {xs : List Nat} {n : Nat} (k0 : Kp w0 w)
    (hg : a.eval g = .func (.func 38) #[v] #[]) (hit : EachOk w0 v xs) (hps : ps.size = 1) (I0 : List Nat → World → Prop) (Ix : World → Prop)
    (hI : ∀ s A B, I0 s A → Kq w.heap.size A B → I0 s B) (hIx : ∀ A B, Ix A → Kq w.heap.size A B → Ix B) (h0 : I0 [] w) (a₁ : Nat → Act)
    (hassign : ∀ (l x : Nat) (W : World) (K : Act → World → Prop), K (a₁ x) W →
      assign.wpIn (Fence.wide.inRound l) n Tryd.prog (Exit.then K (fun _ _ _ => False)) { tmps := (ps.zip #[Value.int .i64 ((x : Nat) : Int)]).foldl (fun t (p, v) => t.setIfInBounds p v) a.tmps, defers := [] } W)
    (hbody : ∀ (l : Nat) (pre : List Nat) (x : Nat) (W : World), Kp w0 W → I0 pre W → pre ++ [x] <+: xs → body.wpIn (Fence.wide.inRound l) n Tryd.prog (RndEnd w0 w I0 Ix (pre ++ [x]) W) (a₁ x) W)
    (hdone : ∀ (D : Nat) (W : World), w.heap.size ≤ D → Kp w0 W → I0 xs W → W.heap[D]? = some (.deferred (some [])) → Q .normal { a with defers := { target := .collected D, args := #[] } :: a.defers } W)
    (hstop : ∀ (D : Nat) (W : World), w.heap.size ≤ D → Ix W → W.heap[D]? = some (.deferred (some [])) → Code.ret.wpIn Fence.wide (n + 2) Tryd.prog Q { a with defers := { target := .collected D, args := #[] } :: a.defers } W) :
    (Code.rangeFunc g ps assign body).wpIn Fence.wide (n + 2) Tryd.prog Q a w := by
  refine wpIn_rangeFunc fun fn hfn => ?_
  obtain ⟨rec, hrec⟩ : ∃ rec : LoopState → Option Code → Loop, rec = fun st pe => { state := st, pending := pe, fn, tmps := a.tmps, params := ps, assign, body, defers := w.heap.size } := ⟨_, rfl⟩
  obtain ⟨s, hs⟩ : ∃ s, s = w.heap.size := ⟨_, rfl⟩
  obtain ⟨W1, hW1⟩ : ∃ W1, (w.alloc (.deferred (some []))).alloc (.loop (rec .ready none)) = W1 := ⟨_, rfl⟩
  have k1w : Kp w W1 := by rw [← hW1]; exact ((Kp.refl w).alloc _).alloc _
  have k1 : Kp w0 W1 := k0.trans k1w
  have hle : w0.heap.size ≤ w.heap.size := k0.size
  have hL1 : W1.heap[s + 1]? = some (.loop (rec .ready none)) := by
    rw [← hW1, hs]
    have := World.alloc_heap_new (w.alloc (.deferred (some []))) (.loop (rec .ready none))
    rwa [World.size_alloc] at this
  have hK1 : W1.heap[s]? = some (.deferred (some [])) := by
    rw [← hW1, hs]
    exact (Below.heap_alloc _ _ _ (by simp)).trans (World.alloc_heap_new w _)
  refine ⟨w.heap.size + 1, [{ target := .collected w.heap.size, args := #[] }], W1, { target := .fn (.func 38) #[], args := #[v, .func (.yield (w.heap.size + 1)) #[] #[]] }, W1, 38,
    #[v, .func (.yield (w.heap.size + 1)) #[] #[]], W1, ?_, ?_, fun _ _ => trivial, ?_, (fun h => by simp [Fence.wide] at h), ?_⟩
  · rw [← hW1, hrec]; exact run_enterLoop_outer _ _ _ _ _
  · simp only [resolve, hg]
    simp [go_sem]
  · simp [invoke, go_sem]
  rw [← hs]
  -- the iterator, over what the loop keeps beside its record and its block
  refine (hit n (s + 1) (fun pre W => Kp w0 W ∧ I0 pre W ∧ W.heap[s + 1]? = some (.loop (rec .ready none)) ∧ W.heap[s]? = some (.deferred (some [])))
    (fun _ W => Ix W ∧ W.heap[s + 1]? = some (.loop (rec .done (some .ret))) ∧ W.heap[s]? = some (.deferred (some []))) W1 k1 ?_ ?_ ⟨k1, hI _ _ _ h0 (k1w.kq _), hL1, hK1⟩).mono ?_
  · rintro pre A B ⟨h1, h2, h3, h4⟩ k
    exact ⟨h1.trans k, hI _ _ _ h2 (k.kq _), (k.block _ (Array.getElem?_eq_some_iff.1 h3).1).trans h3, (k.block _ (Array.getElem?_eq_some_iff.1 h4).1).trans h4⟩
  · rintro pre x W ⟨hkw, hi, hl, hk⟩ hpx
    have hlt : s + 1 < W.heap.size := (Array.getElem?_eq_some_iff.1 hl).1
    have hy := run_yield (P := Tryd.prog) (args := #[Value.int .i64 ((x : Nat) : Int)]) hl (by rw [hrec]; exact hps.symm)
    rw [hrec] at hy
    refine ⟨fn, _, assign, body, hy, roundIn_of_wpIn hfn (hassign _ x W _ ⟨_, run_beginRound hl (by rw [hrec]), ?_⟩)⟩
    obtain ⟨W2, hW2⟩ : ∃ W2, W2 = W.putObj (s + 1) (.loop { rec .ready none with state := .busy }) := ⟨_, rfl⟩
    have hl2 : W2.heap[s + 1]? = some (.loop { rec .ready none with state := .busy }) := by rw [hW2]; exact World.putObj_heap_same hlt
    have hk2 : W2.heap[s]? = some (.deferred (some [])) := by rw [hW2]; exact (World.putObj_heap_other (by omega)).trans hk
    have q2 : Kq w.heap.size W W2 := by rw [hW2]; exact Kq.put _ hl (by omega) rfl
    have d2 : KWd W W2 := by rw [hW2]; exact KWd.put _ hl rfl
    rw [← hW2]
    refine wpIn_mono (hbody _ pre x W2 (q2.kp hkw hle) (hI _ _ _ hi q2) hpx) ?_
    have fin : ∀ (jump : Option Code) (W3 : World), KeepsFrom w.heap.size W2 W3 → ∃ W4, (Instr.endRound (s + 1) jump).run Tryd.prog W3 = .ok (.bool jump.isNone) W4 ∧ Kq w.heap.size W3 W4 ∧ KWd W3 W4 ∧
        W4.heap[s + 1]? = some (.loop (rec (if jump.isNone then .ready else .done) jump)) ∧ W4.heap[s]? = some (.deferred (some [])) := fun jump W3 k3 => by
      have hl3 := k3.same _ _ (by omega) hl2 rfl
      have hr := run_endRound (P := Tryd.prog) jump hl3
      rw [hrec] at hr hl3 ⊢
      exact ⟨_, hr, Kq.put _ hl3 (by omega) rfl, KWd.put _ hl3 rfl, World.putObj_heap_same (Array.getElem?_eq_some_iff.1 hl3).1, (World.putObj_heap_other (by omega)).trans (k3.same _ _ (by omega) hk2 rfl)⟩
    intro e a3 W3 hp
    cases e with
    | normal =>
      obtain ⟨k3, d3, p3, i3⟩ := hp
      obtain ⟨W4, hr, q4, d4, l4, b4⟩ := fin none W3 k3
      exact ⟨_, W4, hr, .inl ⟨rfl, ⟨q4.kp p3 hle, hI _ _ _ i3 q4, l4, b4⟩, (d2.trans d3).trans d4⟩⟩
    | ret =>
      obtain ⟨k3, i3⟩ := hp
      obtain ⟨W4, hr, q4, _, l4, b4⟩ := fin (some .ret) W3 k3
      exact ⟨_, W4, hr, .inr ⟨rfl, hIx _ _ i3 q4, l4, b4⟩⟩
    | exit id => exact hp.elim
    | goto t => exact hp.elim
    | panic ch => exact hp.elim
    | outgrown => exact hp.elim
  · rintro e W2 ⟨⟨u, rfl⟩, (⟨hkw, hi, hl, hk⟩ | ⟨pre, hi, hl, hk⟩)⟩
    · have hr := run_endLoop (P := Tryd.prog) hl (by rw [hrec]; simp)
      rw [hrec] at hr hl
      have q : Kq w.heap.size W2 (W2.putObj (s + 1) (.loop { (rec .ready none) with state := .exhausted })) := by rw [hrec]; exact Kq.put _ hl (by omega) rfl
      rw [hrec] at q
      refine ⟨none, _, hr, hdone s _ (by omega) (q.kp hkw hle) (hI _ _ _ hi q) ((World.putObj_heap_other (by omega)).trans hk)⟩
    · have hr := run_endLoop (P := Tryd.prog) hl (by rw [hrec]; simp)
      rw [hrec] at hr hl
      have q : Kq w.heap.size W2 (W2.putObj (s + 1) (.loop { (rec .done (some .ret)) with state := .exhausted })) := by rw [hrec]; exact Kq.put _ hl (by omega) rfl
      rw [hrec] at q
      exact ⟨some .ret, _, hr, hstop s _ (by omega) (hIx _ _ hi q) ((World.putObj_heap_other (by omega)).trans hk)⟩

end Go.Proofs.YtpjlmmiceiionaaDoor
