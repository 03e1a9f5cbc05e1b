/- The iterator over the keys of a map of words; what it gives, collected. -/
import Derived.Test.YthkkcnnlfjchaaaDoorL1
import Derived.Shelf.SlIter.Collect
import Derived.Shelf.SlIter.Nil
import Derived.Maps.RangeWalk
namespace Go.Proofs.YthkkcnnlfjchaaaDoor
open Go.RowKit Go.Maps Go.Sort Go.Shelf

def keyW (x : Nat) : Value := .int .u64 (x : Int)
def kL (x : Nat) : Lit := .int .u64 (x : Int)
theorem keyW_inj {x y : Nat} (h : keyW x = keyW y) : x = y := by
  unfold keyW at h
  injection h with _ h
  exact Int.ofNat_inj.1 h
/-- No key twice; a key has come just where the map has it and it is no longer to come. -/
def CPw (D : DataW Unit) (left : Lit → Bool) (ss : List Nat) : Prop := ss.Nodup ∧ (∀ x ∈ ss, x < 18446744073709551616) ∧ ∀ x, x < 18446744073709551616 → (x ∈ ss ↔ (Maps.has D (kL x) = true ∧ left (kL x) = false))
theorem CPw.start (D : DataW Unit) : CPw D (Maps.has D) [] := ⟨List.nodup_nil, (fun _ h => by cases h), fun x _ => by cases Maps.has D (kL x) <;> simp⟩
theorem CPw.step {D : DataW Unit} {left : Lit → Bool} {ss : List Nat} (h : CPw D left ss) {x : Nat} {y : DataW Unit} (hx : x < 18446744073709551616) (hl : left (kL x) = true) (hat : ∀ zd, D.atKey (kL x) zd = y) : CPw D (fun z => left z && !z.sameKey (kL x)) (ss ++ [x]) := by
  have hh : Maps.has D (kL x) = true := has_true_of_atKey hat
  have hnew : x ∉ ss := fun hm => by have := ((h.2.2 x hx).1 hm).2; rw [hl] at this; cases this
  refine ⟨List.nodup_append.2 ⟨h.1, by simp, fun a ha b hb => by simp at hb; subst hb; exact fun e => hnew (e ▸ ha)⟩, fun y hy => ?_, fun y hy => ?_⟩
  · rcases List.mem_append.1 hy with c | c
    · exact h.2.1 y c
    · simp at c; subst c; exact hx
  · by_cases e : y = x
    · subst e
      have : (kL y).sameKey (kL y) = true := WideAt.sameKey_self (isKey_w64 hx)
      simp [hh, this]
    · have : (kL y).sameKey (kL x) = false := sameKey_ne (wlit_ne e)
      simp [h.2.2 y hy, e, this]
theorem CPw.perm {D : DataW Unit} {left : Lit → Bool} {ss L : List Nat} (h : CPw D left ss) (hL : ∀ x, x < 18446744073709551616 → Maps.has D (kL x) = decide (x ∈ L)) (nd : L.Nodup) (ok : ∀ x ∈ L, x < 18446744073709551616) (hl : ∀ k, left k = false) : ss.Perm L := by
  refine (List.perm_ext_iff_of_nodup h.1 nd).2 fun x => ?_
  constructor
  · intro hx
    have := ((h.2.2 x (h.2.1 x hx)).1 hx).1
    rw [hL x (h.2.1 x hx)] at this
    exact of_decide_eq_true this
  · intro hx
    rw [h.2.2 x (ok x hx), hL x (ok x hx), hl]
    exact ⟨decide_eq_true hx, rfl⟩
set_option maxRecDepth 100000 in
set_option maxHeartbeats 2000000 in
theorem keysW_in (F : Fence) (n : Nat) (hf : F.fn 32) (hro : F.round = none) (hn : 1 ≤ n) (l Bm b : Nat) (Wd : Nat → Nat) (L : List Nat) (J : List Nat → World → Prop)
    (hY : ∀ pre x W, J pre W → pre.length < L.length → YieldAt F (n - 1) Tryd.prog l #[keyW x] W fun e W' => e = .returned (.bool true) ∧ J (pre ++ [x]) W' ∧ KeepsWalks W W')
    (W : World) (hJ : AbidesFrom W.heap.size J) (hm : W.cell? ⟨Bm, 0, none⟩ = some (.map (some b))) (hp : MWd W b Wd L) (h0 : J [] W) :
    CallsIn F n Tryd.prog 32 #[.func (.yield l) #[] #[], .pointer (some ⟨Bm, 0, none⟩)] W fun e W' => (∃ v, e = .returned v) ∧ ∃ ss, ss.Perm L ∧ J ss W' := by
  obtain ⟨D, hown, hhas, _, hsz⟩ := hp.ex
  have nd := hp.nd
  have ok := hp.sub
  clear hp
  refine callsIn_of_wp Tryd.func32 rfl hf ?_ hro
  simp only [Tryd.ntmps32, List.size_toArray, List.length_cons, List.length_nil, Nat.reduceAdd, Nat.reduceSub, Array.replicate_succ, Array.replicate_zero, List.push_toArray, List.append_toArray, List.nil_append, List.cons_append]
  gi_wp2_with (first
    | (gi_at_range; refine wpListIn_range_own _ rfl _ 46 rfl 29 29 keyed_w64 Tryd.underlying46 _ b L.length _ rfl hown ?_; intro w0 hrg0 hg0 hs0)
    | gi_in)
  go_frame
  gi_loopw [3] (fun _ wr => ∃ (left : Lit → Bool) (cnt : Nat) (ss : List Nat), wr.ranges Tryd.prog 29 (plainElem (H := Unit) Tryd.prog 29) b W.heap.size L.length D left cnt ∧ ss.length + cnt ≤ L.length ∧ CPw D left ss ∧ J ss wr)
    (fun _ wr => wr.rangeLeft b W.heap.size)
  case atStart =>
    exact ⟨_, _, [], hrg0, by simp [hsz], CPw.start D, hJ [] W w0 none h0 hg0 (fun r e => by cases e)⟩
  case round =>
    obtain ⟨left, cnt, ss, hrg, hcs, hC, hJs⟩ := hrel
    gi_wp2_with (first
      | (gi_at_next; refine wpListIn_next_ranges _ rfl _ rfl 29 keyed_w64 (plainElem (H := Unit) Tryd.prog 29) keyW id (fun key kl hk => by obtain ⟨x, hx, _⟩ := key_w64_inv hk; exact ⟨x, hx⟩) (fun v _ _ => ⟨v, rfl⟩) b W.heap.size L.length _ _ _ rfl hrg ?_ ?_)
      | gi_in)
    · intro hc0 hl0
      gi_wp2
      go_end0
      exact ⟨⟨_, rfl⟩, ss, hC.perm hhas nd ok hl0, hJs⟩
    · intro xg v kl yd yp w2 cnt2 hkey hlk hv hat hrg2 hlt hg2 hs2 hen
      obtain ⟨x', ex, rfl, hok⟩ := key_w64_inv hkey
      obtain rfl := keyW_inj ex
      have hJ2 : J ss w2 := hJ ss wr w2 (some W.heap.size) hJs hg2 (fun r e => by cases e; exact ⟨Nat.le_refl _, hrg.iter_walk⟩)
      clear hs2 ex
      unfold keyW at hen ⊢
      obtain ⟨fn, tmps, assign, body, hy, hR⟩ := hY ss xg w2 hJ2 (by omega)
      have hy' : (Instr.yield l #[.int .u64 (xg : Int)]).run Tryd.prog w2 = .ok (.round l fn tmps assign body) w2 := hy
      clear hy
      gi_wp2
      refine hR.mono ?_
      rintro e W3 ⟨rfl, hJ3, hk3⟩
      gi_wp2
      have hrg3 := hrg2.of_walks hk3
      go_roundw
      case rel => exact ⟨_, cnt2, ss ++ [xg], hrg3, by simp; omega, hC.step hok hlk hat, hJ3⟩
      case measure => rw [hrg3.left_eq, hrg.left_eq]; exact hlt
/-- maps.Keys hands back an iterator over a map's keys. -/
theorem keysW_gives (F : Fence) (n : Nat) (hf : F.fn 32) (hro : F.round = none) (hn : 1 ≤ n) (Bm b : Nat) (Wd : Nat → Nat) (L : List Nat) (w : World) (hBm : Bm < w.heap.size)
    (hm : w.cell? ⟨Bm, 0, none⟩ = some (.map (some b))) (hp : MWd w b Wd L) :
    SeqGives F n Tryd.prog 32 #[.pointer (some ⟨Bm, 0, none⟩)] keyW (fun ss => ss.Perm L) L.length w := fun l J W hW hJ hY h0 => by
  have hc := (hW.cell (p := ⟨Bm, 0, none⟩) hBm).trans hm
  exact keysW_in F n hf hro hn l Bm b Wd L J hY W hJ hc (hp.kp hW) h0
set_option maxHeartbeats 1000000 in
theorem keysW_any (b : Nat) (w : World) : Calls Tryd.prog 28 #[.map (some b)] w fun e w' => e = .returned (.func (.func 32) #[] #[.pointer (some ⟨w.heap.size, 0, none⟩)]) ∧ w' = w.alloc (.cells #[.map (some b)] 46) := by
  go_enter Tryd.func28, Tryd.ntmps28
  go_wp2_with fail
  go_ret
  exact ⟨rfl, rfl⟩

end Go.Proofs.YthkkcnnlfjchaaaDoor
