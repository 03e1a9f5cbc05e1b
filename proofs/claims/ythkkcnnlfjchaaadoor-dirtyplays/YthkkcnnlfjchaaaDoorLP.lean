/- dirty: both logs beside a step; both Collects. -/
import Derived.Test.YthkkcnnlfjchaaaDoorLO
import Derived.Test.YthkkcnnlfjchaaaDoorS6
import Derived.Deep.RegionHeld3
import Derived.Deep.CutBlock
import Derived.Deep.DeepCutAuto
namespace Go.Proofs.YthkkcnnlfjchaaaDoor
open Go.RowKit Go.Maps
set_option maxRecDepth 10000

theorem place8 (a : Int) (M : Nat) (hM : 0 < M) : ∃ (t : Int) (p : Nat), a.tmod M = t ∧ -(M : Int) < t ∧ t < M ∧ (t + M).tmod M = (p : Int) ∧ p < M := by
  have l1 := Int.lt_tmod_of_pos a (b := (M : Int)) (by omega)
  have l2 := Int.tmod_lt_of_pos a (b := (M : Int)) (by omega)
  have e3 : (a.tmod M + M).tmod M = (a.tmod M + M) % M := Int.tmod_eq_emod_of_nonneg (by omega)
  have e4 := Int.emod_nonneg (a.tmod M + M) (b := (M : Int)) (by omega)
  have e5 := Int.emod_lt_of_pos (a.tmod M + M) (b := (M : Int)) (by omega)
  refine ⟨_, ((a.tmod M + M) % M).toNat, rfl, by omega, l2, ?_, ?_⟩
  · rw [e3, Int.toNat_of_nonneg e4]
  · omega
/-- Both logs, and the step's row at bo. -/
def TwM (w0 w : World) (p r bo : Nat) (kd : Int) (x : Nat) (on : Bool) (W : Nat → Nat) (on' : Bool) (L : List Nat) (o : Nat) : Prop :=
  TwS w0 w p r on W on' L o (· = bo) ∧ w.heap[bo]? = some (.cells #[.int .i64 kd, .int .u64 (x : Int)] 31 (0, 0)) ∧ w0.heap.size ≤ bo
section
variable {w0 w w' : World} {p r bo o : Nat} {kd : Int} {x : Nat} {on on' : Bool} {W : Nat → Nat} {L : List Nat}
theorem TwM.kp (h : TwM w0 w p r bo kd x on W on' L o) (k : Kp w w') : TwM w0 w' p r bo kd x on W on' L o := ⟨h.1.kp k, (k.block bo (Array.getElem?_eq_some_iff.1 h.2.1).1).trans h.2.1, h.2.2⟩
theorem TwM.act (h : TwM w0 w p r bo kd x on W on' L o) {on2 on3 : Bool} {W2 : Nat → Nat} {L2 : List Nat} {o2 : Nat} (t : TwS w0 w' p r on2 W2 on3 L2 o2 (· = bo)) (f : FrX w0 (· = bo) w w') : TwM w0 w' p r bo kd x on2 W2 on3 L2 o2 :=
  ⟨t, (f.block bo (Array.getElem?_eq_some_iff.1 h.2.1).1 (fun s => s.2 rfl)).trans h.2.1, h.2.2⟩
theorem TwM.e0 (h : TwM w0 w p r bo kd x on W on' L o) : w.cell? ⟨bo, 0, none⟩ = some (.int .i64 kd) := by rw [cell_of_row w bo 0 _ _ _ h.2.1]; rfl
theorem TwM.e1 (h : TwM w0 w p r bo kd x on W on' L o) : w.cell? ⟨bo, 1, none⟩ = some (.int .u64 (x : Int)) := by rw [cell_of_row w bo 1 _ _ _ h.2.1]; rfl
theorem TwM.pnote (h : TwM w0 w p r bo kd x on W on' L o) (hx : x < 18446744073709551616) (ho : o ≤ 1000) : Calls Tryd.prog 16 #[.pointer (some ⟨p, 0, none⟩), .int .u64 (x : Int)] w fun e w' => e = .returned (.bool (on && !hasW W x)) ∧ TwM w0 w' p r bo kd x on (if on then addB W x else W) on' L (o + 1) :=
  (h.1.pnote x hx (by omega)).mono fun _ _ ⟨he, t, f⟩ => ⟨he, h.act t f⟩
theorem TwM.pforget (h : TwM w0 w p r bo kd x on W on' L o) (hx : x < 18446744073709551616) (ho : o ≤ 1000) : Calls Tryd.prog 7 #[.pointer (some ⟨p, 0, none⟩), .int .u64 (x : Int)] w fun e w' => e = .returned (.bool (hasW W x)) ∧ TwM w0 w' p r bo kd x on (delB W x) on' L (o + 1) :=
  (h.1.pforget x hx (by omega)).mono fun _ _ ⟨he, t, f⟩ => ⟨he, h.act t f⟩
theorem TwM.pstart (h : TwM w0 w p r bo kd x on W on' L o) : Calls Tryd.prog 12 #[.pointer (some ⟨p, 0, none⟩)] w fun e w' => e = .returned (.int .i64 (if on then 20 else 0)) ∧ TwM w0 w' p r bo kd x true (if on then W else W00) on' L (o + 1) :=
  h.1.pstart.mono fun _ _ ⟨he, t, f⟩ => ⟨he, h.act t f⟩
theorem TwM.pstop (h : TwM w0 w p r bo kd x on W on' L o) : Calls Tryd.prog 14 #[.pointer (some ⟨p, 0, none⟩)] w fun e w' => e = .returned (.int .i64 (if on then 0 else 20)) ∧ TwM w0 w' p r bo kd x false (if on then W00 else W) on' L (o + 1) :=
  h.1.pstop.mono fun _ _ ⟨he, t, f⟩ => ⟨he, h.act t f⟩
theorem TwM.rnote (h : TwM w0 w p r bo kd x on W on' L o) (ho : o ≤ 1000) : Calls Tryd.prog 17 #[.pointer (some ⟨r, 0, none⟩), .int .u64 (x : Int)] w fun e w' => e = .returned (.bool (on' && !decide (x ∈ L))) ∧ ∃ L', TwM w0 w' p r bo kd x on W on' L' (o + 1) ∧ ∀ q, q ∈ L' ↔ q ∈ L ∨ (on' = true ∧ q = x) :=
  (h.1.rnote x (by omega)).mono fun _ _ ⟨he, L', t, f, hq⟩ => ⟨he, L', h.act t f, hq⟩
theorem TwM.rforget (h : TwM w0 w p r bo kd x on W on' L o) (ho : o ≤ 1000) : Calls Tryd.prog 8 #[.pointer (some ⟨r, 0, none⟩), .int .u64 (x : Int)] w fun e w' => e = .returned (.bool (decide (x ∈ L))) ∧ ∃ L', TwM w0 w' p r bo kd x on W on' L' (o + 1) ∧ ∀ q, q ∈ L' ↔ q ∈ L ∧ q ≠ x :=
  (h.1.rforget x (by omega)).mono fun _ _ ⟨he, L', t, f, hq⟩ => ⟨he, L', h.act t f, hq⟩
theorem TwM.rstart (h : TwM w0 w p r bo kd x on W on' L o) : Calls Tryd.prog 13 #[.pointer (some ⟨r, 0, none⟩)] w fun e w' => e = .returned (.int .i64 (if on' then 20 else 0)) ∧ TwM w0 w' p r bo kd x on W true (if on' then L else []) (o + 1) :=
  h.1.rstart.mono fun _ _ ⟨he, t, f⟩ => ⟨he, h.act t f⟩
theorem TwM.rstop (h : TwM w0 w p r bo kd x on W on' L o) : Calls Tryd.prog 15 #[.pointer (some ⟨r, 0, none⟩)] w fun e w' => e = .returned (.int .i64 (if on' then 0 else 20)) ∧ TwM w0 w' p r bo kd x on W false (if on' then [] else L) (o + 1) :=
  h.1.rstop.mono fun _ _ ⟨he, t, f⟩ => ⟨he, h.act t f⟩
theorem TwM.phas (h : TwM w0 w p r bo kd x on W on' L o) (y : Nat) (hy : y < 18446744073709551616) : Calls Tryd.prog 19 #[.pointer (some ⟨p, 0, none⟩), .int .u64 (y : Int)] w fun e w' => e = .returned (.bool (hasW W y)) ∧ TwM w0 w' p r bo kd x on W on' L o :=
  (h.1.phas y hy).mono fun _ _ ⟨he, n, hw⟩ => ⟨he, by rw [hw]; exact h.kp ((Kp.refl w).drewN n)⟩
theorem TwM.rhas (h : TwM w0 w p r bo kd x on W on' L o) (ho : o ≤ 1000) (y : Nat) : Calls Tryd.prog 20 #[.pointer (some ⟨r, 0, none⟩), .int .u64 (y : Int)] w fun e w' => e = .returned (.bool (decide (y ∈ L))) ∧ TwM w0 w' p r bo kd x on W on' L o :=
  (h.1.rhas (by omega) y).mono fun _ _ ⟨he, n, hw⟩ => ⟨he, by rw [hw]; exact h.kp ((Kp.refl w).drewN n)⟩
theorem TwM.pon (h : TwM w0 w p r bo kd x on W on' L o) : Calls Tryd.prog 18 #[.pointer (some ⟨p, 0, none⟩)] w fun e w' => e = .returned (.bool on) ∧ TwM w0 w' p r bo kd x on W on' L o :=
  h.1.pon.mono fun _ _ ⟨he, hw⟩ => ⟨he, by rw [hw]; exact h⟩
/-- The told list's block. -/
abbrev Xna (bo : Nat) (na : Option Addr) : Nat → Prop := fun i => i = bo ∨ na = some ⟨i, 0, none⟩
/-- Both, beside the list that was told. -/
def TwC (w0 w : World) (p r bo : Nat) (kd : Int) (x : Nat) (on : Bool) (W : Nat → Nat) (on' : Bool) (L : List Nat) (o : Nat) (na : Option Addr) (n cap : Nat) (M : List Nat) : Prop :=
  TwS w0 w p r on W on' L o (Xna bo na) ∧ w.heap[bo]? = some (.cells #[.int .i64 kd, .int .u64 (x : Int)] 31 (0, 0)) ∧ w0.heap.size ≤ bo ∧ AX LTw w (bo + 1) (.slice na n cap) M
theorem TwC.kp {na : Option Addr} {n cap : Nat} {M : List Nat} (h : TwC w0 w p r bo kd x on W on' L o na n cap M) (k : Kp w w') : TwC w0 w' p r bo kd x on W on' L o na n cap M := ⟨h.1.kp k, (k.block bo (Array.getElem?_eq_some_iff.1 h.2.1).1).trans h.2.1, h.2.2.1, h.2.2.2.kp k⟩
theorem TwC.back {na : Option Addr} {n cap : Nat} {M : List Nat} (h : TwC w0 w p r bo kd x on W on' L o na n cap M) : TwM w0 w p r bo kd x on W on' L o := ⟨h.1.sub (fun _ e => .inl e), h.2.1, h.2.2.1⟩
theorem TwM.pcoll (h : TwM w0 w p r bo kd x on W on' L o) (T : TAB w0) (ho : o ≤ 1000) : Calls Tryd.prog 9 #[.pointer (some ⟨p, 0, none⟩)] w fun e w' => ∃ na M cap, e = .returned (.tuple #[.slice na M.length cap, .int .i64 (if on then 0 else 20)]) ∧ M.Pairwise (· < ·) ∧ (∀ q, q ∈ M ↔ on = true ∧ hasW W q = true) ∧ M.length ≤ 64000 ∧ TwC w0 w' p r bo kd x on (if on then W00 else W) on' L o na M.length cap M := by
  cases on with
  | false =>
    refine h.1.pcoll_no.mono ?_
    rintro e w' ⟨he, rfl⟩
    exact ⟨none, [], 0, he, List.Pairwise.nil, fun q => by simp, by decide, h.1.sub (fun g e => e.elim id (fun c => by cases c)), h.2.1, h.2.2, AX.nil _ _⟩
  | true =>
    have hb := (Array.getElem?_eq_some_iff.1 h.2.1).1
    refine (h.1.pcoll T ho).mono ?_
    rintro e w' ⟨na, M, cap, he, ax, tl, ll, t, f, tg⟩
    refine ⟨na, M, cap, he, tl.1, fun q => by rw [tl.2]; simp, ll, ?_, (f.block bo hb (fun s => s.2 rfl)).trans h.2.1, h.2.2, ax.low (by omega)⟩
    obtain ⟨na', cap', ev, _, hc, _⟩ := ax.form okT_w64
    cases ev
    rcases hc with ⟨rfl, _⟩ | ⟨g, rfl, _⟩
    · exact t.sub (fun g e => e.elim id (fun c => by cases c))
    · exact (tg g rfl).sub (fun i e => e.elim .inl (fun c => .inr (by injection c with c; injection c with c; exact c.symm)))
theorem TwC.rcoll {na : Option Addr} {n cap : Nat} {M : List Nat} (h : TwC w0 w p r bo kd x on W on' L o na n cap M) : Calls Tryd.prog 10 #[.pointer (some ⟨r, 0, none⟩)] w fun e w' => ∃ nb N cap', e = .returned (.tuple #[.slice nb N.length cap', .int .i64 (if on' then 0 else 20)]) ∧ AS LTw w' nb N ∧ N.Pairwise (· < ·) ∧ (∀ q, q ∈ N ↔ on' = true ∧ q ∈ L) ∧ TwC w0 w' p r bo kd x on W on' (if on' then [] else L) o na n cap M := by
  cases on' with
  | false =>
    refine h.1.rcoll_no.mono ?_
    rintro e w' ⟨he, rfl⟩
    exact ⟨none, [], 0, he, .inl ⟨rfl, rfl⟩, List.Pairwise.nil, fun q => by simp, h⟩
  | true =>
    have hb := (Array.getElem?_eq_some_iff.1 h.2.1).1
    refine h.1.rcoll.mono ?_
    rintro e w' ⟨nb, cap', he, sa, rr, _, t, f⟩
    refine ⟨nb, L, cap', he, sa, rr, fun q => by simp, t, (f.block bo hb (fun s => s.2 (.inl rfl))).trans h.2.1, h.2.2.1, h.2.2.2.fr f (fun g _ _ e s => s.2 (.inr ?_))⟩
    obtain ⟨na', cap2, ev, _, hc, _⟩ := h.2.2.2.form okT_w64
    cases ev
    rcases hc with ⟨rfl, _⟩ | ⟨g', rfl, _⟩
    · cases e
    · cases e; rfl
theorem AX.storeW {w : World} {na : Option Addr} {b n cap i : Nat} {L : List Nat} (H : AX LTw w b (.slice na n cap) L) (hi : i < n) : ∃ g u, na = some ⟨g, 0, none⟩ ∧ b ≤ g ∧ n ≤ cap ∧ w.cell? ⟨g, i, none⟩ = some u ∧ w.frozen? ⟨g, i, none⟩ = false ∧ ∃ L', L'.length = n ∧ AX LTw (w.setCell ⟨g, i, none⟩ (.int .u64 7)) b (.slice na n cap) L' := by
  obtain ⟨rfl, hcap⟩ := H.len
  obtain ⟨_, _, e, _, _, hc⟩ := H.form okT_w64
  cases e
  obtain ⟨x, hx⟩ : ∃ x, L[i]? = some x := ⟨_, List.getElem?_eq_getElem hi⟩
  obtain ⟨g, rfl, _, hb, hcc⟩ := hc i x hx
  have h0 := hcc 0 _ rfl
  rw [show LTw.sz = 1 from rfl, Nat.mul_one, Nat.add_zero] at h0
  have := OL.set (x' := 7) encL_w64 H.ol hx (j := 0) (by decide) (u := .int .u64 7) rfl
  rw [Nat.mul_one, Nat.add_zero] at this
  exact ⟨g, _, rfl, hb, hcap, h0, H.ol.frz _, L.set i 7, by simp, this.1, fun k hk => ⟨(H.up k hk).1, Nat.lt_of_lt_of_le (H.up k hk).2 this.2.size⟩⟩
theorem TwC.store {na : Option Addr} {n cap i : Nat} {M : List Nat} (h : TwC w0 w p r bo kd x on W on' L o na n cap M) (hi : i < n) : ∃ g u, na = some ⟨g, 0, none⟩ ∧ n ≤ cap ∧ w.cell? ⟨g, i, none⟩ = some u ∧ w.frozen? ⟨g, i, none⟩ = false ∧ ∃ M', TwC w0 (w.setCell ⟨g, i, none⟩ (.int .u64 7)) p r bo kd x on W on' L o na n cap M' := by
  obtain ⟨g, u, rfl, hb, hcap, hc, hf, M', _, hax⟩ := h.2.2.2.storeW hi
  have f : Fr (· = g) w (w.setCell ⟨g, i, none⟩ (.int .u64 7)) := Fr.set (S := (· = g)) (Fr.refl _ _) ⟨g, i, none⟩ _ rfl
  have hbl := (Array.getElem?_eq_some_iff.1 h.2.1).1
  refine ⟨g, u, rfl, hcap, hc, hf, M', h.1.fr f (fun j e => ?_), (f.block bo hbl (fun e => ?_)).trans h.2.1, h.2.2.1, hax⟩
  · have e : j = g := e
    have := h.2.2.1
    exact ⟨.inr (by rw [e]), by omega⟩
  · have e : bo = g := e
    omega
theorem TwC.same {na nb : Option Addr} {n cap cap' : Nat} {M N : List Nat} (h : TwC w0 w p r bo kd x on W on' L o na n cap M) (hn : n = M.length) (s : AS LTw w nb N) (e : M = N) (hl : M.length ≤ 1000000) : Calls Tryd.prog 11 #[.slice na n cap, .slice nb N.length cap'] w fun e w' => e = .returned (.bool true) ∧ TwC w0 w' p r bo kd x on W on' L o na n cap M := by
  subst hn
  have := wsame_any (h.2.2.2.src okT_w64) s cap cap' hl
  rw [decide_eq_true e] at this
  exact this.mono fun _ _ ⟨q1, q2⟩ => ⟨q1, h.kp q2⟩
/-- At the head of a round. -/
def TwL (w0 w : World) (p r i : Nat) : Prop := ∃ on W L, TwS w0 w p r on W on L (2 * i) (fun _ => False) ∧ ∀ q, hasW W q = decide (q ∈ L)
/-- Behind a step. -/
def TwB (w0 w : World) (p r bo : Nat) (kd : Int) (x i : Nat) : Prop := ∃ on W L, TwM w0 w p r bo kd x on W on L (2 * i) ∧ ∀ q, hasW W q = decide (q ∈ L)
theorem TwB.head {i : Nat} (h : TwB w0 w p r bo kd x i) : TwL w0 w p r i := by
  obtain ⟨on, W, L, t, hq⟩ := h
  exact ⟨on, W, L, t.1.sub (fun _ e => e.elim), hq⟩
theorem TwL.box {i : Nat} {on : Bool} (h : TwS w0 w p r on W on L (2 * i) (fun _ => False)) (kd : Int) (x : Nat) : TwM w0 (w.alloc (.cells #[.int .i64 kd, .int .u64 (x : Int)] 31)) p r w.heap.size kd x on W on L (2 * i) :=
  ⟨h.box _, heap_alloc_new w _, h.k.size⟩
theorem TwL.start {w1 : World} (h : LGo w0 w1 p false W00 0) : TwL w0 (w1.alloc (.cells #[.bool false, .slice none 0 0] 28)) p w1.heap.size 0 := by
  obtain ⟨bm, K, d, l, u⟩ := h.d
  have k : Kp w1 (w1.alloc (.cells #[.bool false, .slice none 0 0] 28)) := (Kp.refl w1).alloc _
  have h1 := d.lt
  have h2 := d.m.lt
  exact ⟨false, W00, [], ⟨bm, .slice none 0 0, K, d.kp k, ⟨heap_alloc_new w1 _, AX.nil _ _, (fun g e => by cases e), List.Pairwise.nil⟩, h.k.trans k, by omega, Nat.zero_le _, h.up, u, h.k.size, by omega, by omega, (fun g e => by cases e), fun g e => e.elim⟩, fun q => by rw [hasW_none]; simp⟩
/-- The steps' new words and lists are alike. -/
theorem like_add {L' : List Nat} (hq : ∀ q, hasW W q = decide (q ∈ L)) (h : ∀ q, q ∈ L' ↔ q ∈ L ∨ (on = true ∧ q = x)) : ∀ q, hasW (if on then addB W x else W) q = decide (q ∈ L') := fun q => by
  cases on with
  | false => simp only [Bool.false_eq_true, if_false]; rw [hq]; exact decide_eq_decide.2 (by rw [h]; simp)
  | true =>
    simp only [if_true]
    rw [hasW_add, hq, Bool.eq_iff_iff]
    simp [h, or_comm]
theorem like_del {L' : List Nat} (hq : ∀ q, hasW W q = decide (q ∈ L)) (h : ∀ q, q ∈ L' ↔ q ∈ L ∧ q ≠ x) : ∀ q, hasW (delB W x) q = decide (q ∈ L') := fun q => by
  rw [hasW_del, hq, Bool.eq_iff_iff]
  simp [h]
theorem like_on (hq : ∀ q, hasW W q = decide (q ∈ L)) : ∀ q, hasW (if on then W else W00) q = decide (q ∈ (if on then L else [])) := fun q => by
  cases on with
  | false => simp only [Bool.false_eq_true, if_false]; rw [hasW_none]; simp
  | true => simp only [if_true]; exact hq q
theorem like_off (hq : ∀ q, hasW W q = decide (q ∈ L)) : ∀ q, hasW (if on then W00 else W) q = decide (q ∈ (if on then [] else L)) := fun q => by
  cases on with
  | true => simp only [if_true]; rw [hasW_none]; simp
  | false => simp only [Bool.false_eq_true, if_false]; exact hq q
end

end Go.Proofs.YthkkcnnlfjchaaaDoor
