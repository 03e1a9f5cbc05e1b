/- demesneref14: the document's memory: read, Word. -/
import Derived.Test.YtaldekfaebkpkaaNN
import Derived.Test.YtaldekfaebkpkaaUS
import Derived.Test.YtaldekfaebkpkaaZL
namespace Go.Proofs.Ytaldekfaebkpkaa
open Go.RowKit
set_option maxRecDepth 10000

/-- A frame's bytes, by their block. -/
def encK (b : Nat) : List Value := [.slice (some ⟨b, 0, none⟩) 4096 4096]
theorem encK_ok : Enc encK 1 where
  len _ := rfl
  one s u h := by
    simp only [encK, List.mem_cons, List.not_mem_nil, or_false] at h
    subst h; rfl
  pos := by decide
/-- The document's memory with its first i frames. -/
structure RF (W : World) (q i : Nat) (B : Nat → Nat → Nat) (v : Value) (L : List Nat) (w : World) : Prop where
  kp : Kp W w
  lo : W.heap.size ≤ q
  row : w.heap[q]? = some (.cells #[v] 90)
  own : OL encK 52 1 w v L
  len : L.length = i
  fo : ∀ g, v.ownBlock = some g → q < g
  rb : ∀ j b, L[j]? = some b → RB w b 4096 (B j) ∧ q < b ∧ v.ownBlock ≠ some b
theorem ol_lt {w : World} {v : Value} {L : List Nat} {e : TypeId} (h : OL encK e 1 w v L) {g : Nat} (k : v.ownBlock = some g) : g < w.heap.size := by
  obtain ⟨na, cap, rfl, _, h2⟩ := OL.form h
  rcases h2 with ⟨rfl, _⟩ | ⟨g', rfl, h3⟩
  · cases k
  · cases k; exact h3
section
variable {W w w' : World} {q i : Nat} {B : Nat → Nat → Nat} {v : Value} {L : List Nat}
theorem RF.keep (h : RF W q i B v L w) (k : Kp w w') : RF W q i B v L w' :=
  ⟨h.kp.trans k, h.lo, (k.block _ (lt_of_row h.row)).trans h.row, OL.fr h.own (k.fr (fun _ => False)) (fun _ _ => id), h.len, h.fo, fun j b hj => ⟨(h.rb j b hj).1.kp k, (h.rb j b hj).2⟩⟩
theorem RF.c0 (h : RF W q i B v L w) : w.cell? ⟨q, 0, none⟩ = some v := by rw [cell_of_row _ _ 0 _ _ _ h.row]; rfl
theorem RF.fz (h : RF W q i B v L w) : w.frozen? ⟨q, 0, none⟩ = false := frozen_of_row w q 0 _ _ h.row
theorem RF.shape (h : RF W q i B v L w) : ∃ na c, v = .slice na i c := by
  obtain ⟨na, cap, rfl, _⟩ := OL.form h.own
  rw [h.len]; exact ⟨_, _, rfl⟩
/-- A frame more. -/
theorem RF.snoc (h : RF W q i B v L w) (hi : i ≤ 1000) (b : Nat) (hb : RB w b 4096 (B i)) (hq : q < b) (hv : v.ownBlock ≠ some b) (c : Nat) (hc : w.heap[c]? = some (.cells #[.slice (some ⟨b, 0, none⟩) 4096 4096] 52)) :
    ∃ v' w1, (Builtin.append_ #[88, 88] 88 #[v, .slice (some ⟨c, 0, none⟩) 1 1]).run Try.prog w = .ok v' w1 ∧ RF W q (i + 1) B v' (L ++ [b]) (w1.setCell ⟨q, 0, none⟩ v') ∧ w1.cell? ⟨q, 0, none⟩ = some v ∧ w1.frozen? ⟨q, 0, none⟩ = false ∧ (∃ na n c, v' = .slice na n c) := by
  obtain ⟨ti, hi', hz, hsz, hby⟩ : ∃ i : TypeInfo, Try.prog.info? 52 = some i ∧ i.zero = some (.slice none 0 0) ∧ i.size = 1 ∧ i.bytes ≤ 10000 := ⟨_, rfl, rfl, rfl, by decide⟩
  obtain ⟨v', w1, h1, h2, h3, h4⟩ := OL.append (P := Try.prog) encK_ok Try.underlying88 hi' hz hsz rfl rfl h.own [b] (some ⟨c, 0, none⟩) 1 1 rfl (.inr ⟨c, 0, rfl, fun j u hu => by
    rw [cell_of_row _ _ (0 + j) _ _ _ hc]
    simpa [encK] using hu⟩) (by have := h.len; simp; omega) hby 88
  have f : Fr (fun g => v.ownBlock = some g) w w1 := Fr.grown h3 (fun g e => e)
  have lq := lt_of_row h.row
  have row1 : w1.heap[q]? = some (.cells #[v] 90) := (f.block _ lq (fun e => by have := h.fo q e; omega)).trans h.row
  have fo : ∀ g, v'.ownBlock = some g → q < g := fun g e => by
    rcases h4 with h4 | h4
    · exact h.fo g (h4.symm.trans e)
    · rw [h4] at e; cases e; exact lq
  have lo := h.lo
  have fs : Fr (· = q) w1 (w1.setCell ⟨q, 0, none⟩ v') := (Fr.refl (· = q) w1).set ⟨q, 0, none⟩ v' rfl
  have all : ∀ j x, RB w x 4096 (B j) → q < x → v.ownBlock ≠ some x → RB (w1.setCell ⟨q, 0, none⟩ v') x 4096 (B j) ∧ q < x ∧ v'.ownBlock ≠ some x := fun j x r1 r2 r3 => by
    refine ⟨(r1.fr f r3).fr fs (by omega), r2, fun e => ?_⟩
    rcases h4 with h4 | h4
    · exact r3 (h4.symm.trans e)
    · rw [h4] at e; cases e; exact absurd r1.lt (Nat.lt_irrefl _)
  refine ⟨v', w1, h1, ⟨(f.kp h.kp (fun i e => by have := h.fo i e; omega)).set _ _ lo, lo, heap_setCell_same w1 q 0 _ _ v' row1, OL.fr h2 fs (fun g e e' => by have := fo g e; omega), by rw [List.length_append, h.len]; rfl, fo, fun j x hj => ?_⟩, by rw [cell_of_row _ _ 0 _ _ _ row1]; rfl, frozen_of_row _ _ 0 _ _ row1, ?_⟩
  · by_cases cj : j < L.length
    · rw [List.getElem?_append_left cj] at hj
      obtain ⟨r1, r2, r3⟩ := h.rb j x hj
      exact all j x r1 r2 r3
    · rw [List.getElem?_append_right (by omega)] at hj
      have e0 : j - L.length = 0 := by
        cases e : j - L.length
        · rfl
        · rw [e] at hj; cases hj
      rw [e0] at hj
      cases hj
      have ej : j = i := by have := h.len; omega
      rw [ej]
      exact all i b hb hq hv
  · obtain ⟨na, cap, rfl, _⟩ := OL.form h2
    exact ⟨_, _, _, rfl⟩
end
/-- The document's memory has the words M. -/
def DM (w : World) (q : Nat) (M : Nat → Nat → Nat) : Prop := ∃ W B v L, RF W q 40 B v L w ∧ (∀ y, Bytes (B y)) ∧ wM B = M
theorem DM.kp {w w' : World} {q : Nat} {M : Nat → Nat → Nat} (h : DM w q M) (k : Kp w w') : DM w' q M := by
  obtain ⟨W, B, v, L, h1, h2⟩ := h
  exact ⟨W, B, v, L, h1.keep k, h2⟩

set_option maxHeartbeats 4000000 in
theorem read_mem {W w : World} {X : Nat → Prop} {p o : Nat} {M : Nat → Nat → Nat} (h : WW W X p o M w) :
    Calls Try.prog 12 #[.pointer (some ⟨p, 0, none⟩)] w fun e w' => e = .returned (.pointer (some ⟨w.heap.size, 0, none⟩)) ∧ DM w' w.heap.size M ∧ Kp w w' := by
  obtain ⟨S, B, rfl, ⟨ops, ho, hm⟩, _⟩ := h
  have hb : ∀ y, Bytes (B y) := fun y => by obtain ⟨bm, g, hp⟩ := hm; exact hp.byte y
  have HB : Hid (∀ y, Bytes (B y)) := hb
  have HM : Hid (PM w S p 40 ops B) := hm
  have R0 : RF w w.heap.size 0 B (.slice none 0 0) [] (w.alloc (.cells #[.slice none 0 0] 90)) := ⟨(Kp.refl w).alloc _, Nat.le_refl _, heap_alloc_new w _, OL.nil _ _, rfl, (fun g h => by cases h), (fun j b h => by cases h)⟩
  have HR : Hid (RF w w.heap.size 0 B (.slice none 0 0) [] (w.alloc (.cells #[.slice none 0 0] 90))) := R0
  clear R0 hm hb ho
  go_enter Try.func12, Try.ntmps12
  go_wp2_with fail
  go_loopg [4] 42 (fun g v4 wr => ∃ (i : Nat) (v : Value) (L : List Nat), v4 = .int .i64 (i : Int) ∧ i ≤ 40 ∧ 41 - i ≤ g ∧ Hid (RF w w.heap.size i B v L wr))
  case atStart => exact ⟨0, _, _, rfl, by omega, by omega, HR⟩
  case round =>
    clear HR
    obtain ⟨i, v, L, rfl, hi, hg, HI⟩ := hrel
    have kf := pframes_any (HM.out.kp HI.out.kp)
    rw [show ((40 : Nat) : Int) = 40 from rfl] at kf
    by_cases ei : i < 40
    · have zi : (i : Int) < 40 := by omega
      have kg := pget_ok (HM.out.kp HI.out.kp) i ei
      obtain ⟨na, c, rfl⟩ := HI.out.shape
      go_wp2_with fail
      with_reducible refine kf.mono ?_
      rintro _ wr ⟨rfl, rfl⟩
      clear kf
      go_wp2_with fail
      with_reducible refine kg.mono ?_
      rintro _ w2 ⟨rfl, R2, K2⟩
      clear kg
      have H2 := HI.out.keep K2
      have K3 : Kp w2 (w2.alloc (.cells #[.slice (some ⟨wr.heap.size, 0, none⟩) 4096 4096] 52)) := (Kp.refl _).alloc _
      have H3 := H2.keep K3
      obtain ⟨v', w4, r1, H4, c4, f4, ⟨na', n', c', hv'⟩⟩ := H3.snoc (by omega) wr.heap.size (R2.kp K3) (lt_of_row HI.out.row) (fun e => absurd (ol_lt HI.out.own e) (Nat.lt_irrefl _)) w2.heap.size (heap_alloc_new w2 _)
      subst hv'
      have c2 := H2.c0
      have HI4 : Hid (RF w w.heap.size (i + 1) B (.slice na' n' c') (L ++ [wr.heap.size]) (w4.setCell ⟨w.heap.size, 0, none⟩ (.slice na' n' c'))) := H4
      clear H4 H3 H2 K3 K2 R2 HI
      repeat' (first | ((with_reducible refine wp_append_of r1 (.tmp 25) (.tmp 27) ?_ ?_ ?_ ?_ ?_); rfl; rfl; rfl; rfl) | go_values | go_skip | go_guarded | go_step | go_upon | go_back | (simp only []) | (go_values <;> (try go_simp)) | (go_ite <;> go_prune <;> (try go_simp)))
      go_roundg (41 - (i + 1))
      case measure => omega
      case rel => exact ⟨i + 1, _, _, by go_num, by omega, by omega, HI4⟩
    · have ei : i = 40 := by omega
      subst ei
      go_wp2_with fail
      with_reducible refine kf.mono ?_
      rintro _ wr ⟨rfl, rfl⟩
      clear kf
      go_wp2
      go_ret
      exact ⟨rfl, ⟨w, B, v, L, HI.out, HB.out, rfl⟩, HI.out.kp⟩

theorem rdM_ok {M : Nat → Nat → Nat} {a : Nat} (h1 : a % 8 = 0) (h2 : a / 4096 < 40) : rdM M a = (M (a / 4096) (a % 4096 / 8), true) := by unfold rdM; rw [if_pos ⟨h1, h2⟩]
theorem rdM_no {M : Nat → Nat → Nat} {a : Nat} (h : ¬ (a % 8 = 0 ∧ a / 4096 < 40)) : rdM M a = (0, false) := by unfold rdM; rw [if_neg h]
theorem DM.words {w : World} {q : Nat} {M : Nat → Nat → Nat} (h : DM w q M) (a : Nat) : (rdM M a).1 < 18446744073709551616 := by
  obtain ⟨W, B, v, L, _, h2, rfl⟩ := h
  unfold rdM
  split
  · exact numb_lt (h2 _) _ 8
  · show 0 < _; decide

set_option maxHeartbeats 2000000 in
theorem dword_any {w : World} {q : Nat} {M : Nat → Nat → Nat} (h : DM w q M) (a : Nat) (ha : a < 18446744073709551616) :
    Calls Try.prog 32 #[.pointer (some ⟨q, 0, none⟩), .int .u64 (a : Int)] w fun e w' => e = .returned (.tuple #[.int .u64 ((rdM M a).1 : Int), .bool (rdM M a).2]) ∧ w' = w := by
  obtain ⟨W, B, v, L, h1, h2, rfl⟩ := h
  obtain ⟨na, c, rfl⟩ := h1.shape
  have c0 := h1.c0
  obtain ⟨x, hx⟩ : ∃ x, a / 4096 = x := ⟨_, rfl⟩
  obtain ⟨y, hy⟩ : ∃ y, a % 4096 = y := ⟨_, rfl⟩
  obtain ⟨z, hz⟩ : ∃ z, a % 8 = z := ⟨_, rfl⟩
  have e1 : (a : Int) / 4096 = (x : Int) := by omega
  have e2 : (a : Int).tdiv 4096 = (x : Int) := by rw [Int.tdiv_eq_ediv_of_nonneg (by omega)]; omega
  have e3 : (a : Int) % 8 = (z : Int) := by omega
  have e4 : (a : Int).tmod 8 = (z : Int) := by rw [Int.tmod_eq_emod_of_nonneg (by omega)]; omega
  have e5 : (a : Int) % 4096 = (y : Int) := by omega
  have e6 : (a : Int).tmod 4096 = (y : Int) := by rw [Int.tmod_eq_emod_of_nonneg (by omega)]; omega
  have e7 : IntKind.u64.wrap (x : Int) = (x : Int) := by simp [IntKind.wrap, IntKind.bits, IntKind.signed]; omega
  by_cases d1 : z = 0
  · subst d1
    rw [show ((0 : Nat) : Int) = 0 from rfl] at e3 e4
    by_cases d2 : x < 40
    · rw [rdM_ok hz (by omega), hx, hy]
      obtain ⟨b, hb⟩ : ∃ b, L[x]? = some b := ⟨_, List.getElem?_eq_getElem (by rw [h1.len]; exact d2)⟩
      have kb := (h1.rb x b hb).1.bs (h2 x)
      have kg := rget_some b 4096 4096 y 8 (B x) w kb (by decide) (by decide) (by omega) (chk_page (.inr (.inr (.inr rfl))) (by omega) (by omega))
      obtain ⟨g, rfl⟩ : ∃ g, na = some ⟨g, 0, none⟩ := by
        obtain ⟨na', _, e, _, h4⟩ := OL.form h1.own
        have e0 : na = na' := by injection e
        subst e0
        rcases h4 with ⟨_, _, h5⟩ | ⟨g, h5, _⟩
        · rw [h5] at hb; cases hb
        · exact ⟨g, h5⟩
      have cx : w.cell? ⟨g, x, none⟩ = some (.slice (some ⟨b, 0, none⟩) 4096 4096) := by
        have := OL.cell encK_ok h1.own (i := x) (j := 0) hb rfl
        rw [Nat.mul_one, Nat.add_zero] at this
        exact this
      have ew : wM B x (y / 8) = numb (B x) y 8 := by unfold wM; rw [show 8 * (y / 8) = y by omega]
      rw [ew]
      have z1 : (x : Int) < 40 := by omega
      have z3 : decide ((40 : Int) ≤ (x : Int)) = false := decide_eq_false (by omega)
      have z4 : decide (40 ≤ x) = false := decide_eq_false (by omega)
      have e8 : IntKind.i64.wrap (y : Int) = (y : Int) := by simp [IntKind.wrap, IntKind.bits, IntKind.signed]; omega
      rw [show ((8 : Nat) : Int) = 8 from rfl] at kg
      generalize numb (B x) y 8 = u at *
      clear h1 h2 hb kb hx hy hz ew ha
      go_enter Try.func32, Try.ntmps32
      go_wp2_with fail
      with_reducible refine kg.mono ?_
      rintro _ w ⟨rfl, rfl⟩
      go_wp2
      go_ret2
      exact ⟨rfl, rfl⟩
    · rw [rdM_no (by omega)]
      have z1 : ¬ (x : Int) < 40 := by omega
      have z2 : (40 : Int) ≤ (x : Int) := by omega
      have z3 : 40 ≤ x := by omega
      clear h1 h2 hx hy hz ha
      go_enter Try.func32, Try.ntmps32
      go_wp2
      go_ret2
      exact ⟨rfl, rfl⟩
  · rw [rdM_no (by omega)]
    have z1 : ¬ (z : Int) = 0 := by omega
    have z2 : ((z : Int) != 0) = true := by rw [bne_iff_ne]; omega
    have z3 : ((z : Int) == 0) = false := by rw [beq_eq_false_iff_ne]; omega
    clear h1 h2 hx hy hz ha
    go_enter Try.func32, Try.ntmps32
    go_wp2
    go_ret2
    exact ⟨rfl, rfl⟩

end Go.Proofs.Ytaldekfaebkpkaa
