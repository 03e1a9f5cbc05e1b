/- The iterator over a set of places; what it gives, collected. -/
import Derived.Test.YtfpmakmemmnbkaaA1
import Derived.Shelf.SlIter.Collect
import Derived.Shelf.SlIter.Nil
namespace Go.Proofs.Ytfpmakmemmnbkaa
open Go.RowKit Go.Maps Go.Sort Go.Shelf

/-- No place twice; a place has come just where the set has it and it is no longer to come. -/
def CP (D : DataW Unit) (left : Lit → Bool) (ss : List PLc) : Prop := ss.Nodup ∧ (∀ x ∈ ss, okP x) ∧ ∀ x, okP x → (x ∈ ss ↔ (Maps.has D (kP x) = true ∧ left (kP x) = false))
theorem CP.start (D : DataW Unit) : CP D (Maps.has D) [] := ⟨List.nodup_nil, (fun _ h => by cases h), fun x _ => by cases Maps.has D (kP x) <;> simp⟩
theorem CP.step {D : DataW Unit} {left : Lit → Bool} {ss : List PLc} (h : CP D left ss) {x : PLc} {y : DataW Unit} (hx : okP x) (hl : left (kP x) = true) (hat : ∀ zd, D.atKey (kP x) zd = y) : CP D (fun z => left z && !z.sameKey (kP x)) (ss ++ [x]) := by
  have hh : Maps.has D (kP x) = true := has_true_of_atKey hat
  have hnew : x ∉ ss := fun hm => by have := ((h.2.2 x hx).1 hm).2; rw [hl] at this; cases this
  refine ⟨List.nodup_append.2 ⟨h.1, by simp, fun a ha b hb => by simp at hb; subst hb; exact fun e => hnew (e ▸ ha)⟩, fun y hy => ?_, fun y hy => ?_⟩
  · rcases List.mem_append.1 hy with c | c
    · exact h.2.1 y c
    · simp at c; subst c; exact hx
  · by_cases e : y = x
    · subst e
      have : (kP y).sameKey (kP y) = true := WideAt.sameKey_self (isKey_place hx)
      simp [hh, this]
    · have : (kP y).sameKey (kP x) = false := sameKey_ne (kP_ne hx hy e)
      simp [h.2.2 y hy, e, this]
theorem CP.perm {D : DataW Unit} {left : Lit → Bool} {ss L : List PLc} (h : CP D left ss) (hL : ∀ x, okP x → Maps.has D (kP x) = decide (x ∈ L)) (nd : L.Nodup) (ok : ∀ x ∈ L, okP x) (hl : ∀ k, left k = false) : ss.Perm L := by
  refine (List.perm_ext_iff_of_nodup h.1 nd).2 fun x => ?_
  constructor
  · intro hx
    have := ((h.2.2 x (h.2.1 x hx)).1 hx).1
    rw [hL x (h.2.1 x hx)] at this
    exact of_decide_eq_true this
  · intro hx
    rw [h.2.2 x (ok x hx), hL x (ok x hx), hl]
    exact ⟨decide_eq_true hx, rfl⟩

set_option maxRecDepth 100000 in
set_option maxHeartbeats 2000000 in
theorem keysP_in (F : Fence) (n : Nat) (hf : F.fn 28) (hro : F.round = none) (hn : 1 ≤ n) (l Bm b : Nat) (L : List PLc) (J : List PLc → World → Prop)
    (hY : ∀ pre x W, J pre W → pre.length < L.length → YieldAt F (n - 1) Try.prog l #[plV x] W fun e W' => e = .returned (.bool true) ∧ J (pre ++ [x]) W' ∧ KeepsWalks W W')
    (W : World) (hJ : AbidesFrom W.heap.size J) (hm : W.cell? ⟨Bm, 0, none⟩ = some (.map (some b))) (hp : PS W b L) (h0 : J [] W) :
    CallsIn F n Try.prog 28 #[.func (.yield l) #[] #[], .pointer (some ⟨Bm, 0, none⟩)] W fun e W' => (∃ v, e = .returned v) ∧ ∃ ss, ss.Perm L ∧ J ss W' := by
  obtain ⟨D, hown, hhas, hsz⟩ := hp.ex
  have nd := hp.nd
  have ok := hp.ok
  clear hp
  refine callsIn_of_wp Try.func28 rfl hf ?_ hro
  simp only [Try.ntmps28, List.size_toArray, List.length_cons, List.length_nil, Nat.reduceAdd, Nat.reduceSub, Array.replicate_succ, Array.replicate_zero, List.push_toArray, List.append_toArray, List.nil_append, List.cons_append]
  gi_wp2_with (first
    | (gi_at_range; refine wpListIn_range_own _ rfl _ 53 rfl 31 54 keyed_place Try.underlying53 _ b L.length _ rfl hown ?_; intro w0 hrg0 hg0 hs0)
    | gi_in)
  go_frame
  gi_loopw [3] (fun _ wr => ∃ (left : Lit → Bool) (cnt : Nat) (ss : List PLc), wr.ranges Try.prog 31 (unitElem (H := Unit)) b W.heap.size L.length D left cnt ∧ ss.length + cnt ≤ L.length ∧ CP D left ss ∧ J ss wr)
    (fun _ wr => wr.rangeLeft b W.heap.size)
  case atStart =>
    exact ⟨_, _, [], hrg0, by simp [hsz], CP.start D, hJ [] W w0 none h0 hg0 (fun r e => by cases e)⟩
  case round =>
    obtain ⟨left, cnt, ss, hrg, hcs, hC, hJs⟩ := hrel
    gi_wp2_with (first
      | (gi_at_next; refine wpListIn_next_ranges _ rfl _ rfl 31 keyed_place (unitElem (H := Unit)) plV id (fun key kl hk => by obtain ⟨x, hx, _⟩ := keyOf_place_inv hk; exact ⟨x, hx⟩) (fun v _ _ => ⟨v, rfl⟩) b W.heap.size L.length _ _ _ rfl hrg ?_ ?_)
      | gi_in)
    · intro hc0 hl0
      gi_wp2
      go_end0
      exact ⟨⟨_, rfl⟩, ss, hC.perm hhas nd ok hl0, hJs⟩
    · intro xg xp v kl yd yp w2 cnt2 hkey hlk hv hat hrg2 hlt hg2 hs2 hen
      obtain ⟨x', ex, hok, rfl⟩ := keyOf_place_inv hkey
      obtain rfl := plV_inj ex
      have hJ2 : J ss w2 := hJ ss wr w2 (some W.heap.size) hJs hg2 (fun r e => by cases e; exact ⟨Nat.le_refl _, hrg.iter_walk⟩)
      clear hs2 ex
      unfold plV at hen ⊢
      dsimp only at hen ⊢
      have ka : KeepsWalks w2 (w2.alloc (.cells #[.int .i64 xg, .int .u64 xp] 31)) := KeepsWalks.alloc _ _
      obtain ⟨fn, tmps, assign, body, hy, hR⟩ := hY ss (xg, xp) (w2.alloc (.cells #[.int .i64 xg, .int .u64 xp] 31)) (hJ ss w2 _ none hJ2 (World.grownBy_alloc _ _ _) (fun r e => by cases e)) (by omega)
      have hy' : (Instr.yield l #[.agg #[.int .i64 xg, .int .u64 xp]]).run Try.prog (w2.alloc (.cells #[.int .i64 xg, .int .u64 xp] 31)) = .ok (.round l fn tmps assign body) (w2.alloc (.cells #[.int .i64 xg, .int .u64 xp] 31)) := hy
      clear hy
      gi_wp2
      refine hR.mono ?_
      rintro e W3 ⟨rfl, hJ3, hk3⟩
      gi_wp2
      have hrg3 := hrg2.of_walks (ka.trans hk3)
      go_roundw
      case rel => exact ⟨_, cnt2, ss ++ [(xg, xp)], hrg3, by simp; omega, hC.step hok hlk hat, hJ3⟩
      case measure => rw [hrg3.left_eq, hrg.left_eq]; exact hlt

set_option maxRecDepth 100000 in
set_option maxHeartbeats 2000000 in
theorem keysP_nil_in (F : Fence) (n : Nat) (hf : F.fn 28) (hro : F.round = none) (l Bm : Nat) (J : List PLc → World → Prop) (W : World) (hJ : AbidesFrom W.heap.size J)
    (hm : W.cell? ⟨Bm, 0, none⟩ = some (.map none)) (h0 : J [] W) :
    CallsIn F n Try.prog 28 #[.func (.yield l) #[] #[], .pointer (some ⟨Bm, 0, none⟩)] W fun e W' => (∃ v, e = .returned v) ∧ ∃ ss : List PLc, ss.Perm [] ∧ J ss W' := by
  refine callsIn_of_wp Try.func28 rfl hf ?_ hro
  simp only [Try.ntmps28, List.size_toArray, List.length_cons, List.length_nil, Nat.reduceAdd, Nat.reduceSub, Array.replicate_succ, Array.replicate_zero, List.push_toArray, List.append_toArray, List.nil_append, List.cons_append]
  have hrg := run_range_nilMap (P := Try.prog) W 53 31 54 Try.underlying53
  have hnx : ∀ ty, (Instr.next (.pointer (some ⟨W.heap.size, 0, none⟩)) false ty).run Try.prog (W.alloc (.mapIter none 0 #[] 0)) = _ := fun ty => run_next_nilMap _ ty 0 0 #[]
  gi_wp2
  refine wpIn_loop_rounds 1 ?_
  rw [roundsIn_succ]
  gi_wp2
  go_end0
  exact ⟨⟨_, rfl⟩, [], List.Perm.refl _, hJ [] W _ none h0 (World.grownBy_alloc W _ none) (fun r e => by cases e)⟩

/-- The set at m has the places of L: nil: none. -/
def PSn (w : World) (m : Option Nat) (L : List PLc) : Prop := (m = none ∧ L = []) ∨ ∃ b, m = some b ∧ PS w b L
/-- maps.Keys hands back an iterator over a set's places. -/
theorem keysP_gives (F : Fence) (n : Nat) (hf : F.fn 28) (hro : F.round = none) (hn : 1 ≤ n) (Bm : Nat) (m : Option Nat) (L : List PLc) (w : World) (hBm : Bm < w.heap.size)
    (hm : w.cell? ⟨Bm, 0, none⟩ = some (.map m)) (hp : PSn w m L) :
    SeqGives F n Try.prog 28 #[.pointer (some ⟨Bm, 0, none⟩)] plV (fun ss => ss.Perm L) L.length w := fun l J W hW hJ hY h0 => by
  have hc := (hW.cell (p := ⟨Bm, 0, none⟩) hBm).trans hm
  rcases hp with ⟨rfl, rfl⟩ | ⟨b, rfl, hp⟩
  · exact keysP_nil_in F n hf hro l Bm J W hJ hc h0
  · exact keysP_in F n hf hro hn l Bm b L J hY W hJ hc (hp.kp hW) h0

end Go.Proofs.Ytfpmakmemmnbkaa
