/- Joined: N1, N2. -/
import Derived.Test.YtclcickhgoiooaaNN
import Derived.Test.YtclcickhgoiooaaUS
import Derived.Test.YtclcickhgoiooaaZL
import Derived.Test.YtclcickhgoiooaaZR
import Derived.Test.YtclcickhgoiooaaNV
/- demesneref14: the document's memory: read, Word. -/
namespace Go.Proofs.Ytclcickhgoiooaa
open Go.RowKit
set_option maxRecDepth 10000

/-- A frame's bytes, by their block. -/
def encK (b : Nat) : List Value := [.slice (some ⟨b, 0, none⟩) 4096 4096]
theorem encK_ok : Enc encK 1 where
  len _ := rfl
  one s u h := by
    simp only [encK, List.mem_cons, List.not_mem_nil, or_false] at h
    subst h; rfl
  pos := by decide
/-- The document's memory with its first i frames. -/
structure RF (W : World) (q i : Nat) (B : Nat → Nat → Nat) (v : Value) (L : List Nat) (w : World) : Prop where
  kp : Kp W w
  lo : W.heap.size ≤ q
  row : w.heap[q]? = some (.cells #[v] 99)
  own : OL encK 100 1 w v L
  len : L.length = i
  fo : ∀ g, v.ownBlock = some g → q < g
  rb : ∀ j b, L[j]? = some b → RB w b 4096 (B j) ∧ q < b ∧ v.ownBlock ≠ some b
theorem ol_lt {w : World} {v : Value} {L : List Nat} {e : TypeId} (h : OL encK e 1 w v L) {g : Nat} (k : v.ownBlock = some g) : g < w.heap.size := by
  obtain ⟨na, cap, rfl, _, h2⟩ := OL.form h
  rcases h2 with ⟨rfl, _⟩ | ⟨g', rfl, h3⟩
  · cases k
  · cases k; exact h3
section
variable {W w w' : World} {q i : Nat} {B : Nat → Nat → Nat} {v : Value} {L : List Nat}
theorem RF.keep (h : RF W q i B v L w) (k : Kp w w') : RF W q i B v L w' :=
  ⟨h.kp.trans k, h.lo, (k.block _ (lt_of_row h.row)).trans h.row, OL.fr h.own (k.fr (fun _ => False)) (fun _ _ => id), h.len, h.fo, fun j b hj => ⟨(h.rb j b hj).1.kp k, (h.rb j b hj).2⟩⟩
theorem RF.c0 (h : RF W q i B v L w) : w.cell? ⟨q, 0, none⟩ = some v := by rw [cell_of_row _ _ 0 _ _ _ h.row]; rfl
theorem RF.fz (h : RF W q i B v L w) : w.frozen? ⟨q, 0, none⟩ = false := frozen_of_row w q 0 _ _ h.row
theorem RF.shape (h : RF W q i B v L w) : ∃ na c, v = .slice na i c := by
  obtain ⟨na, cap, rfl, _⟩ := OL.form h.own
  rw [h.len]; exact ⟨_, _, rfl⟩
/-- A frame more. -/
theorem RF.snoc (h : RF W q i B v L w) (hi : i ≤ 1000) (b : Nat) (hb : RB w b 4096 (B i)) (hq : q < b) (hv : v.ownBlock ≠ some b) (c : Nat) (hc : w.heap[c]? = some (.cells #[.slice (some ⟨b, 0, none⟩) 4096 4096] 100)) :
    ∃ v' w1, (Builtin.append_ #[97, 97] 97 #[v, .slice (some ⟨c, 0, none⟩) 1 1]).run Try.prog w = .ok v' w1 ∧ RF W q (i + 1) B v' (L ++ [b]) (w1.setCell ⟨q, 0, none⟩ v') ∧ w1.cell? ⟨q, 0, none⟩ = some v ∧ w1.frozen? ⟨q, 0, none⟩ = false ∧ (∃ na n c, v' = .slice na n c) := by
  obtain ⟨ti, hi', hz, hsz, hby⟩ : ∃ i : TypeInfo, Try.prog.info? 100 = some i ∧ i.zero = some (.slice none 0 0) ∧ i.size = 1 ∧ i.bytes ≤ 10000 := ⟨_, rfl, rfl, rfl, by decide⟩
  obtain ⟨v', w1, h1, h2, h3, h4⟩ := OL.append (P := Try.prog) encK_ok Try.underlying97 hi' hz hsz rfl rfl h.own [b] (some ⟨c, 0, none⟩) 1 1 rfl (.inr ⟨c, 0, rfl, fun j u hu => by
    rw [cell_of_row _ _ (0 + j) _ _ _ hc]
    simpa [encK] using hu⟩) (by have := h.len; simp; omega) hby 97
  have f : Fr (fun g => v.ownBlock = some g) w w1 := Fr.grown h3 (fun g e => e)
  have lq := lt_of_row h.row
  have row1 : w1.heap[q]? = some (.cells #[v] 99) := (f.block _ lq (fun e => by have := h.fo q e; omega)).trans h.row
  have fo : ∀ g, v'.ownBlock = some g → q < g := fun g e => by
    rcases h4 with h4 | h4
    · exact h.fo g (h4.symm.trans e)
    · rw [h4] at e; cases e; exact lq
  have lo := h.lo
  have fs : Fr (· = q) w1 (w1.setCell ⟨q, 0, none⟩ v') := (Fr.refl (· = q) w1).set ⟨q, 0, none⟩ v' rfl
  have all : ∀ j x, RB w x 4096 (B j) → q < x → v.ownBlock ≠ some x → RB (w1.setCell ⟨q, 0, none⟩ v') x 4096 (B j) ∧ q < x ∧ v'.ownBlock ≠ some x := fun j x r1 r2 r3 => by
    refine ⟨(r1.fr f r3).fr fs (by omega), r2, fun e => ?_⟩
    rcases h4 with h4 | h4
    · exact r3 (h4.symm.trans e)
    · rw [h4] at e; cases e; exact absurd r1.lt (Nat.lt_irrefl _)
  refine ⟨v', w1, h1, ⟨(f.kp h.kp (fun i e => by have := h.fo i e; omega)).set _ _ lo, lo, heap_setCell_same w1 q 0 _ _ v' row1, OL.fr h2 fs (fun g e e' => by have := fo g e; omega), by rw [List.length_append, h.len]; rfl, fo, fun j x hj => ?_⟩, by rw [cell_of_row _ _ 0 _ _ _ row1]; rfl, frozen_of_row _ _ 0 _ _ row1, ?_⟩
  · by_cases cj : j < L.length
    · rw [List.getElem?_append_left cj] at hj
      obtain ⟨r1, r2, r3⟩ := h.rb j x hj
      exact all j x r1 r2 r3
    · rw [List.getElem?_append_right (by omega)] at hj
      have e0 : j - L.length = 0 := by
        cases e : j - L.length
        · rfl
        · rw [e] at hj; cases hj
      rw [e0] at hj
      cases hj
      have ej : j = i := by have := h.len; omega
      rw [ej]
      exact all i b hb hq hv
  · obtain ⟨na, cap, rfl, _⟩ := OL.form h2
    exact ⟨_, _, _, rfl⟩
end
/-- The document's memory has the words M. -/
def DM (w : World) (q : Nat) (M : Nat → Nat → Nat) : Prop := ∃ W B v L, RF W q 40 B v L w ∧ (∀ y, Bytes (B y)) ∧ wM B = M
theorem DM.kp {w w' : World} {q : Nat} {M : Nat → Nat → Nat} (h : DM w q M) (k : Kp w w') : DM w' q M := by
  obtain ⟨W, B, v, L, h1, h2⟩ := h
  exact ⟨W, B, v, L, h1.keep k, h2⟩

set_option maxHeartbeats 4000000 in
theorem read_mem {W w : World} {X : Nat → Prop} {p o : Nat} {M : Nat → Nat → Nat} (h : WW W X p o M w) :
    Calls Try.prog 8 #[.pointer (some ⟨p, 0, none⟩)] w fun e w' => e = .returned (.pointer (some ⟨w.heap.size, 0, none⟩)) ∧ DM w' w.heap.size M ∧ Kp w w' := by
  obtain ⟨S, B, rfl, ⟨ops, ho, hm⟩, _⟩ := h
  have hb : ∀ y, Bytes (B y) := fun y => by obtain ⟨bm, g, hp⟩ := hm; exact hp.byte y
  have HB : Hid (∀ y, Bytes (B y)) := hb
  have HM : Hid (PM w S p 40 ops B) := hm
  have R0 : RF w w.heap.size 0 B (.slice none 0 0) [] (w.alloc (.cells #[.slice none 0 0] 99)) := ⟨(Kp.refl w).alloc _, Nat.le_refl _, heap_alloc_new w _, OL.nil _ _, rfl, (fun g h => by cases h), (fun j b h => by cases h)⟩
  have HR : Hid (RF w w.heap.size 0 B (.slice none 0 0) [] (w.alloc (.cells #[.slice none 0 0] 99))) := R0
  clear R0 hm hb ho
  go_enter Try.func8, Try.ntmps8
  go_wp2_with fail
  go_loopg [4] 42 (fun g v4 wr => ∃ (i : Nat) (v : Value) (L : List Nat), v4 = .int .i64 (i : Int) ∧ i ≤ 40 ∧ 41 - i ≤ g ∧ Hid (RF w w.heap.size i B v L wr))
  case atStart => exact ⟨0, _, _, rfl, by omega, by omega, HR⟩
  case round =>
    clear HR
    obtain ⟨i, v, L, rfl, hi, hg, HI⟩ := hrel
    have kf := pframes_any (HM.out.kp HI.out.kp)
    rw [show ((40 : Nat) : Int) = 40 from rfl] at kf
    by_cases ei : i < 40
    · have zi : (i : Int) < 40 := by omega
      have kg := pget_ok (HM.out.kp HI.out.kp) i ei
      obtain ⟨na, c, rfl⟩ := HI.out.shape
      go_wp2_with fail
      with_reducible refine kf.mono ?_
      rintro _ wr ⟨rfl, rfl⟩
      clear kf
      go_wp2_with fail
      with_reducible refine kg.mono ?_
      rintro _ w2 ⟨rfl, R2, K2⟩
      clear kg
      have H2 := HI.out.keep K2
      have K3 : Kp w2 (w2.alloc (.cells #[.slice (some ⟨wr.heap.size, 0, none⟩) 4096 4096] 100)) := (Kp.refl _).alloc _
      have H3 := H2.keep K3
      obtain ⟨v', w4, r1, H4, c4, f4, ⟨na', n', c', hv'⟩⟩ := H3.snoc (by omega) wr.heap.size (R2.kp K3) (lt_of_row HI.out.row) (fun e => absurd (ol_lt HI.out.own e) (Nat.lt_irrefl _)) w2.heap.size (heap_alloc_new w2 _)
      subst hv'
      have c2 := H2.c0
      have HI4 : Hid (RF w w.heap.size (i + 1) B (.slice na' n' c') (L ++ [wr.heap.size]) (w4.setCell ⟨w.heap.size, 0, none⟩ (.slice na' n' c'))) := H4
      clear H4 H3 H2 K3 K2 R2 HI
      repeat' (first | ((with_reducible refine wp_append_of r1 (.tmp 25) (.tmp 27) ?_ ?_ ?_ ?_ ?_); rfl; rfl; rfl; rfl) | go_values | go_skip | go_guarded | go_step | go_upon | go_back | (simp only []) | (go_values <;> (try go_simp)) | (go_ite <;> go_prune <;> (try go_simp)))
      go_roundg (41 - (i + 1))
      case measure => omega
      case rel => exact ⟨i + 1, _, _, by go_num, by omega, by omega, HI4⟩
    · have ei : i = 40 := by omega
      subst ei
      go_wp2_with fail
      with_reducible refine kf.mono ?_
      rintro _ wr ⟨rfl, rfl⟩
      clear kf
      go_wp2
      go_ret
      exact ⟨rfl, ⟨w, B, v, L, HI.out, HB.out, rfl⟩, HI.out.kp⟩

theorem rdM_ok {M : Nat → Nat → Nat} {a : Nat} (h1 : a % 8 = 0) (h2 : a / 4096 < 40) : rdM M a = (M (a / 4096) (a % 4096 / 8), true) := by unfold rdM; rw [if_pos ⟨h1, h2⟩]
theorem rdM_no {M : Nat → Nat → Nat} {a : Nat} (h : ¬ (a % 8 = 0 ∧ a / 4096 < 40)) : rdM M a = (0, false) := by unfold rdM; rw [if_neg h]
theorem DM.words {w : World} {q : Nat} {M : Nat → Nat → Nat} (h : DM w q M) (a : Nat) : (rdM M a).1 < 18446744073709551616 := by
  obtain ⟨W, B, v, L, _, h2, rfl⟩ := h
  unfold rdM
  split
  · exact numb_lt (h2 _) _ 8
  · show 0 < _; decide

set_option maxHeartbeats 2000000 in
theorem dword_any {w : World} {q : Nat} {M : Nat → Nat → Nat} (h : DM w q M) (a : Nat) (ha : a < 18446744073709551616) :
    Calls Try.prog 36 #[.pointer (some ⟨q, 0, none⟩), .int .u64 (a : Int)] w fun e w' => e = .returned (.tuple #[.int .u64 ((rdM M a).1 : Int), .bool (rdM M a).2]) ∧ w' = w := by
  obtain ⟨W, B, v, L, h1, h2, rfl⟩ := h
  obtain ⟨na, c, rfl⟩ := h1.shape
  have c0 := h1.c0
  obtain ⟨x, hx⟩ : ∃ x, a / 4096 = x := ⟨_, rfl⟩
  obtain ⟨y, hy⟩ : ∃ y, a % 4096 = y := ⟨_, rfl⟩
  obtain ⟨z, hz⟩ : ∃ z, a % 8 = z := ⟨_, rfl⟩
  have e1 : (a : Int) / 4096 = (x : Int) := by omega
  have e2 : (a : Int).tdiv 4096 = (x : Int) := by rw [Int.tdiv_eq_ediv_of_nonneg (by omega)]; omega
  have e3 : (a : Int) % 8 = (z : Int) := by omega
  have e4 : (a : Int).tmod 8 = (z : Int) := by rw [Int.tmod_eq_emod_of_nonneg (by omega)]; omega
  have e5 : (a : Int) % 4096 = (y : Int) := by omega
  have e6 : (a : Int).tmod 4096 = (y : Int) := by rw [Int.tmod_eq_emod_of_nonneg (by omega)]; omega
  have e7 : IntKind.u64.wrap (x : Int) = (x : Int) := by simp [IntKind.wrap, IntKind.bits, IntKind.signed]; omega
  by_cases d1 : z = 0
  · subst d1
    rw [show ((0 : Nat) : Int) = 0 from rfl] at e3 e4
    by_cases d2 : x < 40
    · rw [rdM_ok hz (by omega), hx, hy]
      obtain ⟨b, hb⟩ : ∃ b, L[x]? = some b := ⟨_, List.getElem?_eq_getElem (by rw [h1.len]; exact d2)⟩
      have kb := (h1.rb x b hb).1.bs (h2 x)
      have kg := rget_some b 4096 4096 y 8 (B x) w kb (by decide) (by decide) (by omega) (chk_page (.inr (.inr (.inr rfl))) (by omega) (by omega))
      obtain ⟨g, rfl⟩ : ∃ g, na = some ⟨g, 0, none⟩ := by
        obtain ⟨na', _, e, _, h4⟩ := OL.form h1.own
        have e0 : na = na' := by injection e
        subst e0
        rcases h4 with ⟨_, _, h5⟩ | ⟨g, h5, _⟩
        · rw [h5] at hb; cases hb
        · exact ⟨g, h5⟩
      have cx : w.cell? ⟨g, x, none⟩ = some (.slice (some ⟨b, 0, none⟩) 4096 4096) := by
        have := OL.cell encK_ok h1.own (i := x) (j := 0) hb rfl
        rw [Nat.mul_one, Nat.add_zero] at this
        exact this
      have ew : wM B x (y / 8) = numb (B x) y 8 := by unfold wM; rw [show 8 * (y / 8) = y by omega]
      rw [ew]
      have z1 : (x : Int) < 40 := by omega
      have z3 : decide ((40 : Int) ≤ (x : Int)) = false := decide_eq_false (by omega)
      have z4 : decide (40 ≤ x) = false := decide_eq_false (by omega)
      have e8 : IntKind.i64.wrap (y : Int) = (y : Int) := by simp [IntKind.wrap, IntKind.bits, IntKind.signed]; omega
      rw [show ((8 : Nat) : Int) = 8 from rfl] at kg
      generalize numb (B x) y 8 = u at *
      clear h1 h2 hb kb hx hy hz ew ha
      go_enter Try.func36, Try.ntmps36
      go_wp2_with fail
      with_reducible refine kg.mono ?_
      rintro _ w ⟨rfl, rfl⟩
      go_wp2
      go_ret2
      exact ⟨rfl, rfl⟩
    · rw [rdM_no (by omega)]
      have z1 : ¬ (x : Int) < 40 := by omega
      have z2 : (40 : Int) ≤ (x : Int) := by omega
      have z3 : 40 ≤ x := by omega
      clear h1 h2 hx hy hz ha
      go_enter Try.func36, Try.ntmps36
      go_wp2
      go_ret2
      exact ⟨rfl, rfl⟩
  · rw [rdM_no (by omega)]
    have z1 : ¬ (z : Int) = 0 := by omega
    have z2 : ((z : Int) != 0) = true := by rw [bne_iff_ne]; omega
    have z3 : ((z : Int) == 0) = false := by rw [beq_eq_false_iff_ne]; omega
    clear h1 h2 hx hy hz ha
    go_enter Try.func36, Try.ntmps36
    go_wp2
    go_ret2
    exact ⟨rfl, rfl⟩

end Go.Proofs.Ytclcickhgoiooaa

/- demesneref14: Second. -/
namespace Go.Proofs.Ytclcickhgoiooaa
open Go.RowKit
set_option maxRecDepth 10000

theorem load_rout {w : World} {b : Nat} (s : OV) (h : RX w b 38 (encO s)) : (loadVar 38 ⟨b, 0, none⟩).run Try.prog w = .ok (ouV s) w :=
  run_loadVar_row w b _ 38 _ _ _ h Try.underlying38 rfl (by kernel_rfl)
theorem res_ro {w : World} {a b : Nat} {fn : Func} {c d e : Tmp} {tmps : Array Value} {s : OV} {f : FV} (hf : fn.results = #[.cell c 38, .cell d 35, .tmp e]) (hc : tmps.getD c undef = .pointer (some ⟨a, 0, none⟩)) (hd : tmps.getD d undef = .pointer (some ⟨b, 0, none⟩)) (A : RX w a 38 (encO s)) (B : RX w b 35 (encF f)) :
    (results fn tmps).run Try.prog w = .ok (.tuple #[ouV s, faV f, tmps.getD e undef]) w := by
  have hc' : tmps[c]?.getD undef = .pointer (some ⟨a, 0, none⟩) := by simpa using hc
  have hd' : tmps[d]?.getD undef = .pointer (some ⟨b, 0, none⟩) := by simpa using hd
  simp [results, hf, hc', hd', asAddr, load_rout s A, load_fault f B]
/-- The blocks that are made ahead of all: the results', the fault's. -/
def rsmade (w : World) (f : FV) : World := ((w.alloc (.cells (encO zO).toArray 38)).alloc (.cells (encF zF).toArray 35)).alloc (.cells (encF f).toArray 35)
theorem rsmade_kp (w : World) (f : FV) : Kp w (rsmade w f) := (((Kp.refl w).alloc _).alloc _).alloc _
theorem rsmade_size (w : World) (f : FV) : (rsmade w f).heap.size = w.heap.size + 3 := by simp [rsmade]
theorem rsmade_o (w : World) (f : FV) : RX (rsmade w f) w.heap.size 38 (encO zO) := (RX.made w 38 (encO zO)).kp (((Kp.refl _).alloc _).alloc _)
theorem rsmade_f (w : World) (f : FV) : RX (rsmade w f) (w.heap.size + 1) 35 (encF zF) := by
  have := (RX.made (w.alloc (.cells (encO zO).toArray 38)) 35 (encF zF)).kp ((Kp.refl _).alloc (.cells (encF f).toArray 35))
  rw [show (w.alloc (.cells (encO zO).toArray 38)).heap.size = w.heap.size + 1 by simp] at this
  exact this
theorem rsmade_l (w : World) (f : FV) : RX (rsmade w f) (w.heap.size + 2) 35 (encF f) := by
  have := RX.made ((w.alloc (.cells (encO zO).toArray 38)).alloc (.cells (encF zF).toArray 35)) 35 (encF f)
  rw [show ((w.alloc (.cells (encO zO).toArray 38)).alloc (.cells (encF zF).toArray 35)).heap.size = w.heap.size + 2 by simp] at this
  exact this

theorem put2r_o {w : World} {a b : Nat} {o o' : OV} {f : FV} (h : RX w a 38 (encO o')) (hab : a ≠ b) : RX (put2 w a b o f) a 38 (encO o) := (h.put (U := encO o) rfl).fr (putR_fr _ b 0 (encF f)) hab
theorem Kp.put2 {W w : World} (h : Kp W w) (a b : Nat) (o : OV) (f : FV) (ha : W.heap.size ≤ a) (hb : W.heap.size ≤ b) : Kp W (put2 w a b o f) := (put2_fr w a b o f).kp h (fun i hi => by rcases hi with rfl | rfl <;> assumption)
theorem rs_end {W v : World} {o : OV} {f : FV} (A : RX v W.heap.size 38 (encO zO)) (B : RX v (W.heap.size + 1) 35 (encF zF)) (K : Kp W v) : RX (put2 v W.heap.size (W.heap.size + 1) o f) W.heap.size 38 (encO o) ∧ RX (put2 v W.heap.size (W.heap.size + 1) o f) (W.heap.size + 1) 35 (encF f) ∧ Kp W (put2 v W.heap.size (W.heap.size + 1) o f) :=
  ⟨put2r_o A (by omega), put2_f B (by omega), K.put2 _ _ _ _ (Nat.le_refl _) (by omega)⟩

set_option maxHeartbeats 2000000 in
theorem rsecond_nil (two u : Nat) (acc : Int) (w : World) :
    Calls Try.prog 32 #[.pointer none, .int .u64 (two : Int), .int .u64 (u : Int), .int .i64 acc] w fun e w' => e = .returned (.tuple #[ouV zO, faV ⟨2, 4, -1, u, acc == 2⟩, .int .i64 0]) ∧ Kp w w' := by
  obtain ⟨st, hst⟩ : ∃ st, (acc == 2) = st := ⟨_, rfl⟩
  obtain ⟨w2, hw2⟩ : ∃ w2, w2 = rsmade w ⟨2, 4, -1, u, st⟩ := ⟨_, rfl⟩
  have A : RX w2 w.heap.size 38 (encO zO) := by rw [hw2]; exact rsmade_o w _
  have B : RX w2 (w.heap.size + 1) 35 (encF zF) := by rw [hw2]; exact rsmade_f w _
  have C : RX w2 (w.heap.size + 1 + 1) 35 (encF ⟨2, 4, -1, u, st⟩) := by rw [hw2]; exact rsmade_l w _
  have K : Kp w w2 := by rw [hw2]; exact rsmade_kp w _
  have he2 : w2 = ((w.alloc (.cells #[.int .i64 0, .int .u64 0, .bool false, .bool false, .bool false, .bool false, .bool false, .bool false] 38)).alloc (.cells #[.int .i64 0, .int .i64 0, .int .i64 0, .int .u64 0, .bool false] 35)).alloc (.cells #[.int .i64 2, .int .i64 4, .int .i64 (-1), .int .u64 (u : Int), .bool st] 35) := hw2
  rw [hst]
  clear hw2
  go_enter Try.func32, Try.ntmps32
  go_wp2_with fail
  rw [← he2]
  clear he2
  have a0 := A.cell (j := 0) rfl; have a1 := A.cell (j := 1) rfl; have a2 := A.cell (j := 2) rfl; have a3 := A.cell (j := 3) rfl; have a4 := A.cell (j := 4) rfl; have a5 := A.cell (j := 5) rfl; have a6 := A.cell (j := 6) rfl; have a7 := A.cell (j := 7) rfl; have fa := A.fz
  have b0 := B.cell (j := 0) rfl; have b1 := B.cell (j := 1) rfl; have b2 := B.cell (j := 2) rfl; have b3 := B.cell (j := 3) rfl; have b4 := B.cell (j := 4) rfl; have fb := B.fz
  have c0 := C.cell (j := 0) rfl; have c1 := C.cell (j := 1) rfl; have c2 := C.cell (j := 2) rfl; have c3 := C.cell (j := 3) rfl; have c4 := C.cell (j := 4) rfl
  obtain ⟨R1, R2, R3⟩ := rs_end (o := zO) (f := ⟨2, 4, -1, u, st⟩) A B K
  obtain ⟨v9, h9⟩ : ∃ z, z = put2 w2 w.heap.size (w.heap.size + 1) zO ⟨2, 4, -1, u, st⟩ := ⟨_, rfl⟩
  rw [← h9] at R1 R2 R3
  have HE : Hid (RX v9.drew w.heap.size 38 (encO zO) ∧ RX v9.drew (w.heap.size + 1) 35 (encF ⟨2, 4, -1, u, st⟩) ∧ Kp w v9.drew) := ⟨R1.kp (Kp.refl _).drew, R2.kp (Kp.refl _).drew, R3.drew⟩
  clear A B C K R1 R2 R3
  go_region
  rw [← putR_five, ← putR_eight]
  change Exit.then _ _ _ _ (put2 w2 w.heap.size (w.heap.size + 1) zO ⟨2, 4, -1, u, st⟩).drew
  rw [← h9]
  clear h9 a0 a1 a2 a3 a4 a5 a6 a7 b0 b1 b2 b3 b4 c0 c1 c2 c3 c4 fa fb
  go_wp2
  exact bodyPost_ret (res_ro rfl rfl rfl HE.out.1 HE.out.2.1) rfl ⟨rfl, HE.out.2.2⟩

set_option maxHeartbeats 2000000 in
theorem rsecond_size {w : World} {q : Nat} (two u : Nat) (acc : Int) (c : 1099511627776 ≤ u) :
    Calls Try.prog 32 #[.pointer (some ⟨q, 0, none⟩), .int .u64 (two : Int), .int .u64 (u : Int), .int .i64 acc] w fun e w' => e = .returned (.tuple #[ouV zO, faV ⟨2, 3, -1, u, acc == 2⟩, .int .i64 0]) ∧ Kp w w' := by
  obtain ⟨st, hst⟩ : ∃ st, (acc == 2) = st := ⟨_, rfl⟩
  obtain ⟨w2, hw2⟩ : ∃ w2, w2 = rsmade w ⟨2, 3, -1, u, st⟩ := ⟨_, rfl⟩
  have A : RX w2 w.heap.size 38 (encO zO) := by rw [hw2]; exact rsmade_o w _
  have B : RX w2 (w.heap.size + 1) 35 (encF zF) := by rw [hw2]; exact rsmade_f w _
  have C : RX w2 (w.heap.size + 1 + 1) 35 (encF ⟨2, 3, -1, u, st⟩) := by rw [hw2]; exact rsmade_l w _
  have K : Kp w w2 := by rw [hw2]; exact rsmade_kp w _
  have he2 : w2 = ((w.alloc (.cells #[.int .i64 0, .int .u64 0, .bool false, .bool false, .bool false, .bool false, .bool false, .bool false] 38)).alloc (.cells #[.int .i64 0, .int .i64 0, .int .i64 0, .int .u64 0, .bool false] 35)).alloc (.cells #[.int .i64 2, .int .i64 3, .int .i64 (-1), .int .u64 (u : Int), .bool st] 35) := hw2
  have d1 : decide ((1099511627776 : Int) ≤ (u : Int)) = true := decide_eq_true (by omega)
  have d2 : decide (1099511627776 ≤ u) = true := decide_eq_true c
  rw [hst]
  clear hw2 c
  go_enter Try.func32, Try.ntmps32
  go_wp2_with fail
  rw [← he2]
  clear he2 d1 d2
  have a0 := A.cell (j := 0) rfl; have a1 := A.cell (j := 1) rfl; have a2 := A.cell (j := 2) rfl; have a3 := A.cell (j := 3) rfl; have a4 := A.cell (j := 4) rfl; have a5 := A.cell (j := 5) rfl; have a6 := A.cell (j := 6) rfl; have a7 := A.cell (j := 7) rfl; have fa := A.fz
  have b0 := B.cell (j := 0) rfl; have b1 := B.cell (j := 1) rfl; have b2 := B.cell (j := 2) rfl; have b3 := B.cell (j := 3) rfl; have b4 := B.cell (j := 4) rfl; have fb := B.fz
  have c0 := C.cell (j := 0) rfl; have c1 := C.cell (j := 1) rfl; have c2 := C.cell (j := 2) rfl; have c3 := C.cell (j := 3) rfl; have c4 := C.cell (j := 4) rfl
  obtain ⟨R1, R2, R3⟩ := rs_end (o := zO) (f := ⟨2, 3, -1, u, st⟩) A B K
  obtain ⟨v9, h9⟩ : ∃ z, z = put2 w2 w.heap.size (w.heap.size + 1) zO ⟨2, 3, -1, u, st⟩ := ⟨_, rfl⟩
  rw [← h9] at R1 R2 R3
  have HE : Hid (RX v9.drew w.heap.size 38 (encO zO) ∧ RX v9.drew (w.heap.size + 1) 35 (encF ⟨2, 3, -1, u, st⟩) ∧ Kp w v9.drew) := ⟨R1.kp (Kp.refl _).drew, R2.kp (Kp.refl _).drew, R3.drew⟩
  clear A B C K R1 R2 R3
  go_region
  rw [← putR_five, ← putR_eight]
  change Exit.then _ _ _ _ (put2 w2 w.heap.size (w.heap.size + 1) zO ⟨2, 3, -1, u, st⟩).drew
  rw [← h9]
  clear h9 a0 a1 a2 a3 a4 a5 a6 a7 b0 b1 b2 b3 b4 c0 c1 c2 c3 c4 fa fb
  go_wp2
  exact bodyPost_ret (res_ro rfl rfl rfl HE.out.1 HE.out.2.1) rfl ⟨rfl, HE.out.2.2⟩

set_option maxHeartbeats 8000000 in
theorem rsecond_low {w : World} {q : Nat} {M : Nat → Nat → Nat} (h : DM w q M) (two u : Nat) (acc : Int) (ht : two < 18446744073709551616) (c : ¬ 1099511627776 ≤ u) (k : Int) (L : List SV) (n mm : Nat) (hk : goW 2 u (rdM M) 4 0 two = (L, k, mm)) (hn : L.length = n) (o : OV) (f : FV)
    (hr : (k = -1 ∧ o = zO ∧ f = ⟨2, 4, -1, u, acc == 2⟩) ∨ (¬ k = -1 ∧ ¬ k = 0 ∧ o = zO ∧ f = ⟨2, k, -1, u, acc == 2⟩) ∨ (k = 0 ∧ ∃ x : SV, L.getLast? = some x ∧ x.d.a < 18446744073709551616 ∧ ((alP x.d.r x.d.q x.d.x acc = false ∧ o = zO ∧ f = ⟨2, 2, -1, u, acc == 2⟩) ∨ (alP x.d.r x.d.q x.d.x acc = true ∧ o = ⟨((outN u x.l x.d.k x.d.a / 4096 : Nat) : Int), u / 4096, true, true, true, x.d.r, x.d.q, x.d.x⟩ ∧ f = zF)))) :
    Calls Try.prog 32 #[.pointer (some ⟨q, 0, none⟩), .int .u64 (two : Int), .int .u64 (u : Int), .int .i64 acc] w fun e w' => e = .returned (.tuple #[ouV o, faV f, .int .i64 (n : Int)]) ∧ Kp w w' := by
  obtain ⟨st, hst⟩ : ∃ st, (acc == 2) = st := ⟨_, rfl⟩
  obtain ⟨w2, hw2⟩ : ∃ w2, w2 = rsmade w ⟨2, 0, -1, u, st⟩ := ⟨_, rfl⟩
  have A : RX w2 w.heap.size 38 (encO zO) := by rw [hw2]; exact rsmade_o w _
  have B : RX w2 (w.heap.size + 1) 35 (encF zF) := by rw [hw2]; exact rsmade_f w _
  have C : RX w2 (w.heap.size + 1 + 1) 35 (encF ⟨2, 0, -1, u, st⟩) := by rw [hw2]; exact rsmade_l w _
  have K : Kp w w2 := by rw [hw2]; exact rsmade_kp w _
  have he2 : w2 = ((w.alloc (.cells #[.int .i64 0, .int .u64 0, .bool false, .bool false, .bool false, .bool false, .bool false, .bool false] 38)).alloc (.cells #[.int .i64 0, .int .i64 0, .int .i64 0, .int .u64 0, .bool false] 35)).alloc (.cells #[.int .i64 2, .int .i64 0, .int .i64 (-1), .int .u64 (u : Int), .bool st] 35) := hw2
  have d1 : decide ((1099511627776 : Int) ≤ (u : Int)) = false := decide_eq_false (by omega)
  have d2 : decide (1099511627776 ≤ u) = false := decide_eq_false c
  have hu : u < 18446744073709551616 := by omega
  have kb := begin_any 2 two u w2
  rw [decide_eq_false (by decide)] at kb
  rw [hst] at hr
  have HH : Hid (RX w2 w.heap.size 38 (encO zO) ∧ RX w2 (w.heap.size + 1) 35 (encF zF) ∧ RX w2 (w.heap.size + 1 + 1) 35 (encF ⟨2, 0, -1, u, st⟩) ∧ Kp w w2 ∧ DM w2 q M ∧ u < 18446744073709551616 ∧ two < 18446744073709551616) := ⟨A, B, C, K, h.kp K, hu, ht⟩
  have HR : Hid ((k = -1 ∧ o = zO ∧ f = ⟨2, 4, -1, u, st⟩) ∨ (¬ k = -1 ∧ ¬ k = 0 ∧ o = zO ∧ f = ⟨2, k, -1, u, st⟩) ∨ (k = 0 ∧ ∃ x : SV, L.getLast? = some x ∧ x.d.a < 18446744073709551616 ∧ ((alP x.d.r x.d.q x.d.x acc = false ∧ o = zO ∧ f = ⟨2, 2, -1, u, st⟩) ∨ (alP x.d.r x.d.q x.d.x acc = true ∧ o = ⟨((outN u x.l x.d.k x.d.a / 4096 : Nat) : Int), u / 4096, true, true, true, x.d.r, x.d.q, x.d.x⟩ ∧ f = zF)))) := hr
  have HN : Hid (goW 2 u (rdM M) 4 0 two = (L, k, mm) ∧ L.length = n) := ⟨hk, hn⟩
  clear A B C K hw2 h hu c hr hk hn ht
  go_enter Try.func32, Try.ntmps32
  go_wp2_with fail
  rw [← he2]
  clear he2
  with_reducible refine kb.mono ?_
  rintro e w3 ⟨rfl, R3⟩
  have HG : Hid (GR w2 w2.heap.size 2 two u (rdM M) 0 two [] 4 false (.slice none 0 0) w3) := ⟨R3, .inl ⟨rfl, ⟨rfl, by decide, HH.out.2.2.2.2.2.2, by simp⟩, rfl⟩⟩
  clear kb R3 d1 d2
  go_upto_block 0 with fail
  go_cut [12] (fun v12 wx => ∃ (t : Nat) (v : Value), v12 = .int .i64 (n : Int) ∧ Hid (RWk w2 w2.heap.size 2 t u L k true v wx))
  case first =>
    go_wp2_with fail
    go_loopg [12] 6 (fun g v12 wr => ∃ (m t l : Nat) (L' : List SV) (k' : Int) (over : Bool) (v' : Value), v12 = .int .i64 (l : Int) ∧ l ≤ 4 ∧ m ≤ 5 ∧ 6 - m ≤ g ∧ Hid (GR w2 w2.heap.size 2 two u (rdM M) m t L' k' over v' wr ∧ L'.length = l))
    case atStart => exact ⟨0, _, 0, _, _, _, _, rfl, by decide, by decide, by decide, HG.out, rfl⟩
    case round =>
      clear HG
      obtain ⟨m, t, l, L', k', over, v', rfl, hl4, hm5, hg, HI⟩ := hrel
      cases over
      · have hm3 : m ≤ 3 ∧ L'.length = m := by
          rcases HI.out.1.2 with ⟨_, h, _⟩ | ⟨h, _⟩
          · exact ⟨h.2.1, h.1⟩
          · cases h
        have elm : l = m := by have := HI.out.2; omega
        subst elm
        have z1 : (l : Int) ≤ 3 := by omega
        have c5 := HI.out.1.1.c5
        obtain ⟨P, hP⟩ : ∃ P, P = atN t u l := ⟨_, rfl⟩
        have kA := at_any HI.out.1.1 HH.out.2.2.2.2.2.1
        rw [hm3.2, ← hP] at kA
        have hPl : P < 18446744073709551616 := by rw [hP]; exact at_lt _ _ _
        have kw : Kp w2 wr := HI.out.1.1.kp
        have kW : Aside (∀ w4, Kp wr w4 → Calls Try.prog 36 #[.pointer (some ⟨q, 0, none⟩), .int .u64 (P : Int)] w4 fun e w' => e = .returned (.tuple #[.int .u64 ((rdM M P).1 : Int), .bool (rdM M P).2]) ∧ w' = w4) := fun w4 k4 => dword_any ((HH.out.2.2.2.2.1.kp kw).kp k4) P hPl
        have kG : Aside (∀ w4, Kp wr w4 → Calls Try.prog 35 #[.pointer (some ⟨w2.heap.size, 0, none⟩), .int .u64 ((rdM M P).1 : Int), .bool (rdM M P).2] w4 fun e w' => e = .returned (.tuple #[]) ∧ ∃ t' L' k' o' v', GR w2 w2.heap.size 2 two u (rdM M) (l + 1) t' L' k' o' v' w' ∧ L'.length = l + cond (rdM M P).2 1 0) := fun w4 k4 => by
          have := give_GRn (HI.out.1.keep k4) HH.out.2.2.2.2.2.1 (fun a => HH.out.2.2.2.2.1.words a)
          rw [← hP] at this
          exact this
        generalize (rdM M P).1 = xw at *
        generalize (rdM M P).2 = okw at *
        clear kw hP hPl HI
        go_wp2_with fail
        with_reducible refine kA.mono ?_
        rintro _ w4 ⟨rfl, K4⟩
        have kw4 := kW.out w4 K4
        have kg4 := kG.out w4 K4
        clear kA kW kG K4 c5
        go_wp2_with fail
        with_reducible refine kw4.mono ?_
        rintro _ w4 ⟨rfl, rfl⟩
        clear kw4
        cases okw
        all_goals
          go_wp2_with fail
          with_reducible refine kg4.mono ?_
          rintro _ w5 ⟨rfl, t2, L2, k2, o2, v2, G2, hl2⟩
          have HG2 := And.intro G2 hl2
          have HG2 : Hid _ := HG2
          clear kg4 G2 hl2
          go_wp2
          go_roundg (6 - (l + 1))
          case measure => omega
          case rel => first | exact ⟨l + 1, t2, l + 1, L2, k2, o2, v2, rfl, by omega, by omega, by omega, HG2.out⟩ | exact ⟨l + 1, t2, l, L2, k2, o2, v2, rfl, by omega, by omega, by omega, HG2.out⟩
      · have hgo : L' = L ∧ k' = k := by
          rcases HI.out.1.2 with ⟨h, _⟩ | ⟨_, h⟩
          · cases h
          · rw [HN.out.1] at h
            cases h
            exact ⟨rfl, rfl⟩
        obtain ⟨rfl, rfl⟩ := hgo
        have e0 : l = n := by have := HI.out.2; have := HN.out.2; omega
        subst e0
        have c5 := HI.out.1.1.c5
        have HX : Hid (RWk w2 w2.heap.size 2 t u L' k' true v' wr) := HI.out.1.1
        clear HI
        go_wp2_with fail
        go_meet
        exact ⟨t, v', rfl, HX⟩
  case rest =>
    obtain ⟨t, v, rfl, HX⟩ := hcut
    clear HG
    obtain ⟨na, cp, rfl⟩ := HX.out.shape
    have c3 := HX.out.c3
    have c4 := HX.out.c4
    rw [HN.out.2] at c3
    have A := HH.out.1.kp HX.out.kp
    have B := HH.out.2.1.kp HX.out.kp
    have C := HH.out.2.2.1.kp HX.out.kp
    have K := HH.out.2.2.2.1.trans HX.out.kp
    have S := HX.out.own
    have kq : ∀ j, Kp wc (wc.drewN j) := fun j => (Kp.refl _).drewN j
    rcases HR.out with ⟨rfl, rfl, rfl⟩ | ⟨k1, k2, rfl, rfl⟩ | ⟨rfl, x, hx, ha, hy⟩
    · clear HR HN S HX HH
      go_wp2_with fail
      go_quiet (fail)
      have A := A.kp (kq nq)
      have B := B.kp (kq nq)
      have C := C.kp (kq nq)
      have K := K.drewN nq
      obtain ⟨v1, hv1⟩ : ∃ z, z = wc.drewN nq := ⟨_, rfl⟩
      rw [← hv1] at A B C K
      rw [← hv1]
      clear hv1 c3 c4
      clear kq
      have p0 := C.cell (j := 0) rfl; have p1 := C.cell (j := 1) rfl; have p2 := C.cell (j := 2) rfl; have p3 := C.cell (j := 3) rfl; have p4 := C.cell (j := 4) rfl; have fp := C.fz
      have A6 := A.fr ((Fr.refl (· = w.heap.size + 1 + 1) v1).set ⟨w.heap.size + 1 + 1, 1, none⟩ (.int .i64 4) rfl) (by omega)
      have B6 := B.fr ((Fr.refl (· = w.heap.size + 1 + 1) v1).set ⟨w.heap.size + 1 + 1, 1, none⟩ (.int .i64 4) rfl) (by omega)
      have C6 : RX (v1.setCell ⟨w.heap.size + 1 + 1, 1, none⟩ (.int .i64 4)) (w.heap.size + 1 + 1) 35 (encF ⟨2, 4, -1, u, st⟩) := C.set 1 _
      have K6 : Kp w (v1.setCell ⟨w.heap.size + 1 + 1, 1, none⟩ (.int .i64 4)) := K.set _ _ (show w.heap.size ≤ w.heap.size + 1 + 1 by omega)
      obtain ⟨v6, hv6⟩ : ∃ z, z = v1.setCell ⟨w.heap.size + 1 + 1, 1, none⟩ (.int .i64 4) := ⟨_, rfl⟩
      rw [← hv6] at A6 B6 C6 K6
      clear A B C K
      go_wp2_with fail
      rw [← hv6]
      clear hv6 p0 p1 p2 p3 p4 fp
      have A := A6
      have B := B6
      have C := C6
      have K := K6
      clear A6 B6 C6 K6
      have a0 := A.cell (j := 0) rfl; have a1 := A.cell (j := 1) rfl; have a2 := A.cell (j := 2) rfl; have a3 := A.cell (j := 3) rfl; have a4 := A.cell (j := 4) rfl; have a5 := A.cell (j := 5) rfl; have a6 := A.cell (j := 6) rfl; have a7 := A.cell (j := 7) rfl; have fa := A.fz
      have b0 := B.cell (j := 0) rfl; have b1 := B.cell (j := 1) rfl; have b2 := B.cell (j := 2) rfl; have b3 := B.cell (j := 3) rfl; have b4 := B.cell (j := 4) rfl; have fb := B.fz
      have c0 := C.cell (j := 0) rfl; have c1 := C.cell (j := 1) rfl; have c2 := C.cell (j := 2) rfl; have c3 := C.cell (j := 3) rfl; have c4 := C.cell (j := 4) rfl
      obtain ⟨R1, R2, R3⟩ := rs_end (o := zO) (f := ⟨2, 4, -1, u, st⟩) A B K
      obtain ⟨v9, h9⟩ : ∃ z, z = put2 v6 w.heap.size (w.heap.size + 1) zO ⟨2, 4, -1, u, st⟩ := ⟨_, rfl⟩
      rw [← h9] at R1 R2 R3
      have HE : Hid (RX v9.drew w.heap.size 38 (encO zO) ∧ RX v9.drew (w.heap.size + 1) 35 (encF ⟨2, 4, -1, u, st⟩) ∧ Kp w v9.drew) := ⟨R1.kp (Kp.refl _).drew, R2.kp (Kp.refl _).drew, R3.drew⟩
      clear A B C K R1 R2 R3
      go_region
      rw [← putR_five, ← putR_eight]
      change Exit.then _ _ _ _ (put2 v6 w.heap.size (w.heap.size + 1) zO ⟨2, 4, -1, u, st⟩).drew
      rw [← h9]
      clear h9 a0 a1 a2 a3 a4 a5 a6 a7 b0 b1 b2 b3 b4 c0 c1 c2 c3 c4 fa fb
      go_wp2
      exact bodyPost_ret (res_ro rfl rfl rfl HE.out.1 HE.out.2.1) rfl ⟨rfl, HE.out.2.2⟩
    · have b1 : (k == -1) = false := by rw [beq_eq_false_iff_ne]; exact k1
      have b2 : (k == 0) = false := by rw [beq_eq_false_iff_ne]; exact k2
      have b3 : (k != 0) = true := by rw [bne_iff_ne]; exact k2
      clear HR HN S HX HH
      go_wp2_with fail
      go_quiet (fail)
      have A := A.kp (kq nq)
      have B := B.kp (kq nq)
      have C := C.kp (kq nq)
      have K := K.drewN nq
      obtain ⟨v1, hv1⟩ : ∃ z, z = wc.drewN nq := ⟨_, rfl⟩
      rw [← hv1] at A B C K
      rw [← hv1]
      clear hv1 c3 c4
      clear kq
      have p0 := C.cell (j := 0) rfl; have p1 := C.cell (j := 1) rfl; have p2 := C.cell (j := 2) rfl; have p3 := C.cell (j := 3) rfl; have p4 := C.cell (j := 4) rfl; have fp := C.fz
      have A6 := A.fr ((Fr.refl (· = w.heap.size + 1 + 1) v1).set ⟨w.heap.size + 1 + 1, 1, none⟩ (.int .i64 k) rfl) (by omega)
      have B6 := B.fr ((Fr.refl (· = w.heap.size + 1 + 1) v1).set ⟨w.heap.size + 1 + 1, 1, none⟩ (.int .i64 k) rfl) (by omega)
      have C6 : RX (v1.setCell ⟨w.heap.size + 1 + 1, 1, none⟩ (.int .i64 k)) (w.heap.size + 1 + 1) 35 (encF ⟨2, k, -1, u, st⟩) := C.set 1 _
      have K6 : Kp w (v1.setCell ⟨w.heap.size + 1 + 1, 1, none⟩ (.int .i64 k)) := K.set _ _ (show w.heap.size ≤ w.heap.size + 1 + 1 by omega)
      obtain ⟨v6, hv6⟩ : ∃ z, z = v1.setCell ⟨w.heap.size + 1 + 1, 1, none⟩ (.int .i64 k) := ⟨_, rfl⟩
      rw [← hv6] at A6 B6 C6 K6
      clear A B C K
      go_wp2_with fail
      rw [← hv6]
      clear hv6 p0 p1 p2 p3 p4 fp
      have A := A6
      have B := B6
      have C := C6
      have K := K6
      clear A6 B6 C6 K6
      have a0 := A.cell (j := 0) rfl; have a1 := A.cell (j := 1) rfl; have a2 := A.cell (j := 2) rfl; have a3 := A.cell (j := 3) rfl; have a4 := A.cell (j := 4) rfl; have a5 := A.cell (j := 5) rfl; have a6 := A.cell (j := 6) rfl; have a7 := A.cell (j := 7) rfl; have fa := A.fz
      have b0 := B.cell (j := 0) rfl; have b1 := B.cell (j := 1) rfl; have b2 := B.cell (j := 2) rfl; have b3 := B.cell (j := 3) rfl; have b4 := B.cell (j := 4) rfl; have fb := B.fz
      have c0 := C.cell (j := 0) rfl; have c1 := C.cell (j := 1) rfl; have c2 := C.cell (j := 2) rfl; have c3 := C.cell (j := 3) rfl; have c4 := C.cell (j := 4) rfl
      obtain ⟨R1, R2, R3⟩ := rs_end (o := zO) (f := ⟨2, k, -1, u, st⟩) A B K
      obtain ⟨v9, h9⟩ : ∃ z, z = put2 v6 w.heap.size (w.heap.size + 1) zO ⟨2, k, -1, u, st⟩ := ⟨_, rfl⟩
      rw [← h9] at R1 R2 R3
      have HE : Hid (RX v9.drew w.heap.size 38 (encO zO) ∧ RX v9.drew (w.heap.size + 1) 35 (encF ⟨2, k, -1, u, st⟩) ∧ Kp w v9.drew) := ⟨R1.kp (Kp.refl _).drew, R2.kp (Kp.refl _).drew, R3.drew⟩
      clear A B C K R1 R2 R3
      go_region
      rw [← putR_five, ← putR_eight]
      change Exit.then _ _ _ _ (put2 v6 w.heap.size (w.heap.size + 1) zO ⟨2, k, -1, u, st⟩).drew
      rw [← h9]
      clear h9 a0 a1 a2 a3 a4 a5 a6 a7 b0 b1 b2 b3 b4 c0 c1 c2 c3 c4 fa fb
      go_wp2
      exact bodyPost_ret (res_ro rfl rfl rfl HE.out.1 HE.out.2.1) rfl ⟨rfl, HE.out.2.2⟩
    · obtain ⟨I, rfl⟩ : ∃ I, L = I ++ [x] := by
        rcases List.eq_nil_or_concat L with rfl | ⟨I, y, rfl⟩
        · cases hx
        · rw [List.concat_eq_append, List.getLast?_append] at hx
          cases hx
          exact ⟨I, List.concat_eq_append⟩
      obtain ⟨i, hi⟩ : ∃ i, I.length = i := ⟨_, rfl⟩
      have en : n = i + 1 := by have := HN.out.2; rw [List.length_append, hi] at this; exact this.symm
      have l4 : n ≤ 4 := by
        have h1 : (goW 2 u (rdM M) 4 0 two).1.length ≤ 4 := goW_len 2 u (rdM M) 4 0 two
        rw [HN.out.1] at h1
        rw [← HN.out.2]; exact h1
      obtain ⟨g, rfl⟩ : ∃ g, na = some ⟨g, 0, none⟩ := by
        obtain ⟨na', _, e, _, h4⟩ := OL.form S
        have e0 : na = na' := by injection e
        subst e0
        rcases h4 with ⟨_, _, h5⟩ | ⟨g, h5, _⟩
        · rw [h5] at hx; cases hx
        · exact ⟨g, h5⟩
      have hI : (I ++ [x])[i]? = some x := by rw [← hi]; simp
      obtain ⟨xl, xp, xu, xk, xa, xr, xq, xx, xf⟩ := x
      have e1 : (n : Int) - 1 = (i : Int) := by omega
      have e2 : (i : Int) < (n : Int) := by omega
      have e3 : (n : Int) ≤ 4 := by omega
      have ka := fun w => allows_any xr xq xx acc w
      have hu := HH.out.2.2.2.2.2.1
      clear HR HN HX HH hi en l4
      replace ha : xa < 18446744073709551616 := ha
      replace hy : (alP xr xq xx acc = false ∧ o = zO ∧ f = ⟨2, 2, -1, u, st⟩) ∨ (alP xr xq xx acc = true ∧ o = ⟨((outN u xl xk xa / 4096 : Nat) : Int), u / 4096, true, true, true, xr, xq, xx⟩ ∧ f = zF) := hy
      rcases hy with ⟨hy, rfl, rfl⟩ | ⟨hy, ho, rfl⟩
      · rw [hy] at ka
        clear hy ha hx hu
        go_wp2_with fail
        go_quiet (fail)
        have S := OL.fr S ((kq nq).fr (fun _ => False)) (fun _ _ => id)
        have A := A.kp (kq nq)
        have B := B.kp (kq nq)
        have C := C.kp (kq nq)
        have K := K.drewN nq
        obtain ⟨v1, hv1⟩ : ∃ z, z = wc.drewN nq := ⟨_, rfl⟩
        rw [← hv1] at A B C K S
        rw [← hv1]
        clear hv1 c3 c4
        have x0 : v1.cell? ⟨g, i * 9, none⟩ = some (.int .i64 (xl : Int)) := OL.cell encS_ok S (j := 0) hI rfl
        have x1 := OL.cell encS_ok S (j := 1) hI rfl
        have x2 := OL.cell encS_ok S (j := 2) hI rfl
        have x3 := OL.cell encS_ok S (j := 3) hI rfl
        have x4 := OL.cell encS_ok S (j := 4) hI rfl
        have x5 := OL.cell encS_ok S (j := 5) hI rfl
        have x6 := OL.cell encS_ok S (j := 6) hI rfl
        have x7 := OL.cell encS_ok S (j := 7) hI rfl
        have x8 := OL.cell encS_ok S (j := 8) hI rfl
        have K1 : Kp v1 (v1.alloc (.cells #[.int .i64 (xl : Int), .int .u64 (xp : Int), .int .u64 (xu : Int), .int .i64 xk, .int .u64 (xa : Int), .bool xr, .bool xq, .bool xx, .int .i64 xf] 95)) := (Kp.refl _).alloc _
        have A2 := A.kp K1
        have B2 := B.kp K1
        have C2 := C.kp K1
        have K2 := K.trans K1
        have S2 : RX (v1.alloc (.cells #[.int .i64 (xl : Int), .int .u64 (xp : Int), .int .u64 (xu : Int), .int .i64 xk, .int .u64 (xa : Int), .bool xr, .bool xq, .bool xx, .int .i64 xf] 95)) v1.heap.size 95 [.int .i64 (xl : Int), .int .u64 (xp : Int), .int .u64 (xu : Int), .int .i64 xk, .int .u64 (xa : Int), .bool xr, .bool xq, .bool xx, .int .i64 xf] := RX.made _ _ _
        obtain ⟨v2, hv2⟩ : ∃ z, z = v1.alloc (.cells #[.int .i64 (xl : Int), .int .u64 (xp : Int), .int .u64 (xu : Int), .int .i64 xk, .int .u64 (xa : Int), .bool xr, .bool xq, .bool xx, .int .i64 xf] 95) := ⟨_, rfl⟩
        rw [← hv2] at A2 B2 C2 K2 S2
        clear A B C K K1 S hI kq
        go_wp2_with fail
        rw [← hv2]
        clear hv2
        with_reducible refine (ka _).mono ?_
        rintro _ w5 ⟨rfl, K5⟩
        have A := A2.kp K5
        have B := B2.kp K5
        have C := C2.kp K5
        have K := K2.trans K5
        clear A2 B2 C2 K2 S2 K5 ka
        have p0 := C.cell (j := 0) rfl; have p1 := C.cell (j := 1) rfl; have p2 := C.cell (j := 2) rfl; have p3 := C.cell (j := 3) rfl; have p4 := C.cell (j := 4) rfl; have fp := C.fz
        have A6 := A.fr ((Fr.refl (· = w.heap.size + 1 + 1) w5).set ⟨w.heap.size + 1 + 1, 1, none⟩ (.int .i64 2) rfl) (by omega)
        have B6 := B.fr ((Fr.refl (· = w.heap.size + 1 + 1) w5).set ⟨w.heap.size + 1 + 1, 1, none⟩ (.int .i64 2) rfl) (by omega)
        have C6 : RX (w5.setCell ⟨w.heap.size + 1 + 1, 1, none⟩ (.int .i64 2)) (w.heap.size + 1 + 1) 35 (encF ⟨2, 2, -1, u, st⟩) := C.set 1 _
        have K6 : Kp w (w5.setCell ⟨w.heap.size + 1 + 1, 1, none⟩ (.int .i64 2)) := K.set _ _ (show w.heap.size ≤ w.heap.size + 1 + 1 by omega)
        obtain ⟨v6, hv6⟩ : ∃ z, z = w5.setCell ⟨w.heap.size + 1 + 1, 1, none⟩ (.int .i64 2) := ⟨_, rfl⟩
        rw [← hv6] at A6 B6 C6 K6
        clear A B C K
        go_wp2_with fail
        rw [← hv6]
        clear hv6 p0 p1 p2 p3 p4 fp
        have A := A6
        have B := B6
        have C := C6
        have K := K6
        clear A6 B6 C6 K6
        have a0 := A.cell (j := 0) rfl; have a1 := A.cell (j := 1) rfl; have a2 := A.cell (j := 2) rfl; have a3 := A.cell (j := 3) rfl; have a4 := A.cell (j := 4) rfl; have a5 := A.cell (j := 5) rfl; have a6 := A.cell (j := 6) rfl; have a7 := A.cell (j := 7) rfl; have fa := A.fz
        have b0 := B.cell (j := 0) rfl; have b1 := B.cell (j := 1) rfl; have b2 := B.cell (j := 2) rfl; have b3 := B.cell (j := 3) rfl; have b4 := B.cell (j := 4) rfl; have fb := B.fz
        have c0 := C.cell (j := 0) rfl; have c1 := C.cell (j := 1) rfl; have c2 := C.cell (j := 2) rfl; have c3 := C.cell (j := 3) rfl; have c4 := C.cell (j := 4) rfl
        obtain ⟨R1, R2, R3⟩ := rs_end (o := zO) (f := ⟨2, 2, -1, u, st⟩) A B K
        obtain ⟨v9, h9⟩ : ∃ z, z = put2 v6 w.heap.size (w.heap.size + 1) zO ⟨2, 2, -1, u, st⟩ := ⟨_, rfl⟩
        rw [← h9] at R1 R2 R3
        have HE : Hid (RX v9.drew w.heap.size 38 (encO zO) ∧ RX v9.drew (w.heap.size + 1) 35 (encF ⟨2, 2, -1, u, st⟩) ∧ Kp w v9.drew) := ⟨R1.kp (Kp.refl _).drew, R2.kp (Kp.refl _).drew, R3.drew⟩
        clear A B C K R1 R2 R3
        go_region
        rw [← putR_five, ← putR_eight]
        change Exit.then _ _ _ _ (put2 v6 w.heap.size (w.heap.size + 1) zO ⟨2, 2, -1, u, st⟩).drew
        rw [← h9]
        clear h9 a0 a1 a2 a3 a4 a5 a6 a7 b0 b1 b2 b3 b4 c0 c1 c2 c3 c4 fa fb
        go_wp2
        exact bodyPost_ret (res_ro rfl rfl rfl HE.out.1 HE.out.2.1) rfl ⟨rfl, HE.out.2.2⟩
      · rw [hy] at ka
        have ko := fun w => rout_any u xa xl xp xu xk xr xq xx xf w ha
        have kl := fun w => all_any w
        have hz := out_lt u xl xk xa
        generalize outN u xl xk xa = Z at *
        have y1 : IntKind.u64.wrap ((Z : Int) / 4096) = ((Z / 4096 : Nat) : Int) := by simp [IntKind.wrap, IntKind.bits, IntKind.signed]; omega
        have y2 : IntKind.i64.wrap ((Z / 4096 : Nat) : Int) = ((Z / 4096 : Nat) : Int) := by rw [IntKind.wrap_i64]; omega
        have y3 : IntKind.u64.wrap ((u : Int) / 4096) = ((u / 4096 : Nat) : Int) := by simp [IntKind.wrap, IntKind.bits, IntKind.signed]; omega
        generalize Z / 4096 = Zq at *
        generalize u / 4096 = uq at *
        have HO : Hid (o = ⟨(Zq : Int), uq, true, true, true, xr, xq, xx⟩) := ho
        clear hy ha hx hz hu ho
        go_wp2_with fail
        go_quiet (fail)
        have S := OL.fr S ((kq nq).fr (fun _ => False)) (fun _ _ => id)
        have A := A.kp (kq nq)
        have B := B.kp (kq nq)
        have C := C.kp (kq nq)
        have K := K.drewN nq
        obtain ⟨v1, hv1⟩ : ∃ z, z = wc.drewN nq := ⟨_, rfl⟩
        rw [← hv1] at A B C K S
        rw [← hv1]
        clear hv1 c3 c4
        have x0 : v1.cell? ⟨g, i * 9, none⟩ = some (.int .i64 (xl : Int)) := OL.cell encS_ok S (j := 0) hI rfl
        have x1 := OL.cell encS_ok S (j := 1) hI rfl
        have x2 := OL.cell encS_ok S (j := 2) hI rfl
        have x3 := OL.cell encS_ok S (j := 3) hI rfl
        have x4 := OL.cell encS_ok S (j := 4) hI rfl
        have x5 := OL.cell encS_ok S (j := 5) hI rfl
        have x6 := OL.cell encS_ok S (j := 6) hI rfl
        have x7 := OL.cell encS_ok S (j := 7) hI rfl
        have x8 := OL.cell encS_ok S (j := 8) hI rfl
        have K1 : Kp v1 (v1.alloc (.cells #[.int .i64 (xl : Int), .int .u64 (xp : Int), .int .u64 (xu : Int), .int .i64 xk, .int .u64 (xa : Int), .bool xr, .bool xq, .bool xx, .int .i64 xf] 95)) := (Kp.refl _).alloc _
        have A2 := A.kp K1
        have B2 := B.kp K1
        have C2 := C.kp K1
        have K2 := K.trans K1
        have S2 : RX (v1.alloc (.cells #[.int .i64 (xl : Int), .int .u64 (xp : Int), .int .u64 (xu : Int), .int .i64 xk, .int .u64 (xa : Int), .bool xr, .bool xq, .bool xx, .int .i64 xf] 95)) v1.heap.size 95 [.int .i64 (xl : Int), .int .u64 (xp : Int), .int .u64 (xu : Int), .int .i64 xk, .int .u64 (xa : Int), .bool xr, .bool xq, .bool xx, .int .i64 xf] := RX.made _ _ _
        obtain ⟨v2, hv2⟩ : ∃ z, z = v1.alloc (.cells #[.int .i64 (xl : Int), .int .u64 (xp : Int), .int .u64 (xu : Int), .int .i64 xk, .int .u64 (xa : Int), .bool xr, .bool xq, .bool xx, .int .i64 xf] 95) := ⟨_, rfl⟩
        rw [← hv2] at A2 B2 C2 K2 S2
        clear A B C K K1 S hI kq
        go_wp2_with fail
        rw [← hv2]
        clear hv2
        with_reducible refine (ka _).mono ?_
        rintro _ w5 ⟨rfl, K5⟩
        have HB : Aside (∀ v, Kp w5 v → v.cell? ⟨w.heap.size, 0, none⟩ = some (.int .i64 0) ∧ v.cell? ⟨w.heap.size, 1, none⟩ = some (.int .u64 0) ∧ v.cell? ⟨w.heap.size, 2, none⟩ = some (.bool false) ∧ v.cell? ⟨w.heap.size, 3, none⟩ = some (.bool false) ∧ v.cell? ⟨w.heap.size, 4, none⟩ = some (.bool false) ∧ v.cell? ⟨w.heap.size, 5, none⟩ = some (.bool false) ∧ v.cell? ⟨w.heap.size, 6, none⟩ = some (.bool false) ∧ v.cell? ⟨w.heap.size, 7, none⟩ = some (.bool false) ∧ v.cell? ⟨w.heap.size + 1, 0, none⟩ = some (.int .i64 0) ∧ v.cell? ⟨w.heap.size + 1, 1, none⟩ = some (.int .i64 0) ∧ v.cell? ⟨w.heap.size + 1, 2, none⟩ = some (.int .i64 0) ∧ v.cell? ⟨w.heap.size + 1, 3, none⟩ = some (.int .u64 0) ∧ v.cell? ⟨w.heap.size + 1, 4, none⟩ = some (.bool false) ∧ v.cell? ⟨v1.heap.size, 0, none⟩ = some (.int .i64 (xl : Int)) ∧ v.cell? ⟨v1.heap.size, 1, none⟩ = some (.int .u64 (xp : Int)) ∧ v.cell? ⟨v1.heap.size, 2, none⟩ = some (.int .u64 (xu : Int)) ∧ v.cell? ⟨v1.heap.size, 3, none⟩ = some (.int .i64 xk) ∧ v.cell? ⟨v1.heap.size, 4, none⟩ = some (.int .u64 (xa : Int)) ∧ v.cell? ⟨v1.heap.size, 5, none⟩ = some (.bool xr) ∧ v.cell? ⟨v1.heap.size, 6, none⟩ = some (.bool xq) ∧ v.cell? ⟨v1.heap.size, 7, none⟩ = some (.bool xx) ∧ v.cell? ⟨v1.heap.size, 8, none⟩ = some (.int .i64 xf) ∧ (∀ j, v.frozen? ⟨w.heap.size, j, none⟩ = false) ∧ (∀ j, v.frozen? ⟨w.heap.size + 1, j, none⟩ = false) ∧ Hid (RX v w.heap.size 38 (encO zO) ∧ RX v (w.heap.size + 1) 35 (encF zF) ∧ Kp w v ∧ Kp w5 v)) := fun v kv => by
          have A5 := (A2.kp K5).kp kv
          have B5 := (B2.kp K5).kp kv
          have S5 := (S2.kp K5).kp kv
          exact ⟨A5.cell (j := 0) rfl, A5.cell (j := 1) rfl, A5.cell (j := 2) rfl, A5.cell (j := 3) rfl, A5.cell (j := 4) rfl, A5.cell (j := 5) rfl, A5.cell (j := 6) rfl, A5.cell (j := 7) rfl, B5.cell (j := 0) rfl, B5.cell (j := 1) rfl, B5.cell (j := 2) rfl, B5.cell (j := 3) rfl, B5.cell (j := 4) rfl, S5.cell (j := 0) rfl, S5.cell (j := 1) rfl, S5.cell (j := 2) rfl, S5.cell (j := 3) rfl, S5.cell (j := 4) rfl, S5.cell (j := 5) rfl, S5.cell (j := 6) rfl, S5.cell (j := 7) rfl, S5.cell (j := 8) rfl, A5.fz, B5.fz, ⟨A5, B5, (K2.trans K5).trans kv, kv⟩⟩
        obtain ⟨a0, a1, a2, a3, a4, a5, a6, a7, b0, b1, b2, b3, b4, s0, s1, s2, s3, s4, s5, s6, s7, s8, fa, fb, H6⟩ := HB.out w5 (Kp.refl w5)
        clear A2 B2 C2 K2 S2 K5 ka H6
        go_wp2_with fail
        go_region_with (first | (go_at_call 38; with_reducible refine (ko _).mono ?_; rintro _ w6 ⟨rfl, K6⟩; obtain ⟨a0, a1, a2, a3, a4, a5, a6, a7, b0, b1, b2, b3, b4, s0, s1, s2, s3, s4, s5, s6, s7, s8, fa, fb, H6⟩ := HB.out w6 (Kp.trans (by first | exact Kp.refl _ | exact (Kp.refl _).drew | exact (Kp.refl _).drewN _ | exact H6.out.2.2.2 | exact H6.out.2.2.2.drew | exact H6.out.2.2.2.drewN _) K6)) | (go_at_call 26; with_reducible refine (kl _).mono ?_; rintro _ w6 ⟨rfl, K6⟩; obtain ⟨a0, a1, a2, a3, a4, a5, a6, a7, b0, b1, b2, b3, b4, s0, s1, s2, s3, s4, s5, s6, s7, s8, fa, fb, H6⟩ := HB.out w6 (Kp.trans (by first | exact Kp.refl _ | exact (Kp.refl _).drew | exact (Kp.refl _).drewN _ | exact H6.out.2.2.2 | exact H6.out.2.2.2.drew | exact H6.out.2.2.2.drewN _) K6)))
        all_goals
          have R := rs_end (o := ⟨(Zq : Int), uq, true, true, true, xr, xq, xx⟩) (f := zF) H6.out.1 H6.out.2.1 H6.out.2.2.1
          have HR9 : Hid _ := R
          clear R HB H6 K6
          go_wp2
          rw [← putR_five, ← putR_eight]
          have R := HR9.out
          change bodyPost _ _ _ _ _ (put2 _ _ _ ⟨(Zq : Int), uq, true, true, true, xr, xq, xx⟩ zF)
          exact bodyPost_ret (res_ro rfl rfl rfl R.1 R.2.1) rfl ⟨by rw [HO.out]; rfl, R.2.2⟩

/-- What the document tells by the second stage alone is what the program tells. -/
theorem rsecond_any {w : World} {q : Nat} {M : Nat → Nat → Nat} (h : DM w q M) (two u : Nat) (acc : Int) (ht : two < 18446744073709551616) :
    Calls Try.prog 32 #[.pointer (some ⟨q, 0, none⟩), .int .u64 (two : Int), .int .u64 (u : Int), .int .i64 acc] w fun e w' => e = .returned (.tuple #[ouV (seO (rdM M) two u acc), faV (seF (rdM M) two u acc), .int .i64 (slN (rdM M) two u : Nat)]) ∧ Kp w w' := by
  by_cases c : 1099511627776 ≤ u
  · have e1 : slK (rdM M) two u = 3 := if_pos c
    have e2 : slN (rdM M) two u = 0 := if_pos c
    rw [e2]
    rcases seK_cases (rdM M) two u acc with ⟨_, _, h3, h4⟩ | ⟨h1, _⟩ | ⟨h1, _⟩
    · rw [h3, h4, e1]
      exact rsecond_size two u acc c
    · rw [e1] at h1; exact absurd h1 (by decide)
    · rw [e1] at h1; exact absurd h1 (by decide)
  · have e1 : slK (rdM M) two u = if (goW 2 u (rdM M) 4 0 two).2.1 = -1 then 4 else (goW 2 u (rdM M) 4 0 two).2.1 := if_neg c
    have e2 : slN (rdM M) two u = (goW 2 u (rdM M) 4 0 two).1.length := if_neg c
    have e3 : slL (rdM M) two u = if (goW 2 u (rdM M) 4 0 two).2.1 = 0 then (goW 2 u (rdM M) 4 0 two).1.getLastD zS else zS := if_neg c
    have g3 := @goW_leaf 2 u (rdM M) two
    rw [e2]
    obtain ⟨⟨L, k, mm⟩, hG⟩ : ∃ z, goW 2 u (rdM M) 4 0 two = z := ⟨_, rfl⟩
    rw [hG] at e1 e3 g3 ⊢
    simp only at e1 e3 g3
    refine rsecond_low h two u acc ht c k L L.length mm hG rfl _ _ ?_
    by_cases k1 : k = -1
    · rw [if_pos k1] at e1
      rcases seK_cases (rdM M) two u acc with ⟨_, _, h3, h4⟩ | ⟨h1, _⟩ | ⟨h1, _⟩
      · rw [e1] at h4
        exact .inl ⟨k1, h3, h4⟩
      · rw [e1] at h1; exact absurd h1 (by decide)
      · rw [e1] at h1; exact absurd h1 (by decide)
    · rw [if_neg k1] at e1
      by_cases k0 : k = 0
      · rw [if_pos k0] at e3
        obtain ⟨I, x, rfl, _, _, hd, _⟩ := g3 k0
        rw [show (I ++ [x]).getLastD zS = x by simp] at e3
        refine .inr (.inr ⟨k0, x, by simp, by rw [hd]; exact dv_addr _ _ _, ?_⟩)
        rcases seK_cases (rdM M) two u acc with ⟨h1, _⟩ | ⟨_, h2, _, h4, h5⟩ | ⟨_, h2, _, h4, h5⟩
        · exact absurd (e1.trans k0) h1
        · rw [e3] at h2
          exact .inl ⟨h2, h4, h5⟩
        · rw [e3] at h2 h4
          exact .inr ⟨h2, h4, h5⟩
      · rcases seK_cases (rdM M) two u acc with ⟨_, _, h3, h4⟩ | ⟨h1, _⟩ | ⟨h1, _⟩
        · rw [e1] at h4
          exact .inr (.inl ⟨k1, k0, h3, h4⟩)
        · exact absurd (e1.symm.trans h1) k0
        · exact absurd (e1.symm.trans h1) k0

end Go.Proofs.Ytclcickhgoiooaa
