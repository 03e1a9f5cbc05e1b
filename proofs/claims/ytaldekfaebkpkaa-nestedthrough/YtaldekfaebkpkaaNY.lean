/- NestedThrough: a frame that is copied; what the tables tell then. -/
import Derived.Test.YtaldekfaebkpkaaNS
import Derived.Test.YtaldekfaebkpkaaNU
import Derived.Test.YtaldekfaebkpkaaZS
namespace Go.Proofs.Ytaldekfaebkpkaa
open Go.RowKit
set_option maxRecDepth 10000

/-! ### frames that are copied and cleared -/
/-- The frame x has what y has. -/
def cpM (M : Nat → Nat → Nat) (x y : Nat) : Nat → Nat → Nat := fun z j => if z = x then M y j else M z j
theorem wM_copy (B : Nat → Nat → Nat) (x y : Nat) : wM (putFr B x (B y)) = cpM (wM B) x y := by
  funext z j
  unfold wM cpM putFr
  by_cases c : z = x
  · rw [if_pos c, if_pos c]
  · rw [if_neg c, if_neg c]
/-- The block c has the bytes of the frame y. -/
def WC (W : World) (X : Nat → Prop) (p o : Nat) (M : Nat → Nat → Nat) (y c : Nat) (w : World) : Prop :=
  ∃ S B, wM B = M ∧ PMo w S p 40 o B ∧ (∀ i, S i → OuX W X i) ∧ (∀ i, X i → i < w.heap.size) ∧ Kp W w ∧ RB w c 4096 (B y) ∧ Bytes (B y)
section
variable {W w w' : World} {X : Nat → Prop} {p o : Nat} {M : Nat → Nat → Nat}
theorem WW.get (h : WW W X p o M w) (y : Nat) (hy : y < 40) :
    Calls Try.prog 19 #[.pointer (some ⟨p, 0, none⟩), .int .i64 (y : Int)] w fun e w' => e = .returned (.tuple #[.slice (some ⟨w.heap.size, 0, none⟩) 4096 4096, .int .i64 0]) ∧ WC W X p o M y w.heap.size w' ∧ Kp w w' := by
  obtain ⟨S, B, h1, ⟨ops, ho, h2⟩, h3, h4, h5⟩ := h
  have hb : Bytes (B y) := by obtain ⟨bm, g, hp⟩ := h2; exact hp.byte y
  exact (pget_ok h2 y hy).mono fun e w' ⟨e1, e2, e3⟩ => ⟨e1, ⟨S, B, h1, ⟨ops, ho, h2.kp e3⟩, h3, fun i hi => Nat.lt_of_lt_of_le (h4 i hi) e3.size, h5.trans e3, e2, hb⟩, e3⟩
theorem WC.set {y c : Nat} (h : WC W X p o M y c w) (x : Nat) (hx : x < 40) :
    Calls Try.prog 21 #[.pointer (some ⟨p, 0, none⟩), .int .i64 (x : Int), .slice (some ⟨c, 0, none⟩) 4096 4096] w fun e w' => e = .returned (.int .i64 0) ∧ WW W X p o (cpM M x y) w' ∧ Fr (OuX W X) w w' := by
  obtain ⟨S, B, rfl, ⟨ops, ho, h2⟩, h3, h4, h5, h6, h7⟩ := h
  refine (pset_ok h2 x hx c 0 4096 (B y) h6.lt (h6.bs h7).cell h7).mono fun e w' ⟨e1, S', e2, e3, e4⟩ => ⟨e1, ⟨S', _, wM_copy B x y, ⟨ops, ho, e2⟩, fun j hj => ?_, fun j hj => Nat.lt_of_lt_of_le (h4 j hj) e3.size, e3.kp h5 (fun j hj => (h3 j hj).1)⟩, e3.mono (fun j _ hj => h3 j hj)⟩
  rcases e4 j hj with c | c
  · exact h3 j c
  · exact ⟨Nat.le_trans h5.size c, fun hX => by have := h4 j hX; omega⟩
theorem WW.zero (h : WW W X p o M w) (y : Nat) (hy : y < 40) :
    Calls Try.prog 22 #[.pointer (some ⟨p, 0, none⟩), .int .i64 (y : Int)] w fun e w' => e = .returned (.int .i64 0) ∧ WW W X p o (zerM M y) w' ∧ Fr (OuX W X) w w' := by
  obtain ⟨S, B, rfl, ⟨ops, ho, h2⟩, h3, h4, h5⟩ := h
  exact (pzero_ok h2 y hy).mono fun e w' ⟨e1, e2, e3⟩ => ⟨e1, ⟨S, _, wM_zero B y, ⟨ops, ho, e2⟩, h3, fun j hj => Nat.lt_of_lt_of_le (h4 j hj) e3.size, e3.kp h5 (fun j hj => (h3 j hj).1)⟩, e3.mono (fun j _ hj => h3 j hj)⟩
end

/-! ### addresses of one page -/
theorem idx_pg (u i : Nat) : idx u (i : Int) = idx (u / 4096 * 4096) (i : Int) := by
  by_cases c : i ≤ 3
  · exact idx_same (j := 3) (show (u / 4096 * 4096) / 2 ^ sh 3 = u / 2 ^ sh 3 from by rw [show (2 : Nat) ^ sh 3 = 4096 from rfl, Nat.mul_div_cancel _ (by decide)]) c (by omega)
  · unfold idx
    have e : isLv (i : Int) = false := by
      cases h : isLv (i : Int)
      · rfl
      · have := isLv_iff.1 h; omega
    rw [e, if_neg (by decide), if_neg (by decide)]
theorem at_pg (t u l : Nat) : atN t u l = atN t (u / 4096 * 4096) l := by unfold atN; rw [idx_pg]
theorem go_pg (s : Int) (u : Nat) (rd : Nat → Nat × Bool) (n l t : Nat) : goW s u rd n l t = goW s (u / 4096 * 4096) rd n l t := goW_same s (u / 4096 * 4096) u rd n l t (fun i _ _ => (idx_pg u i).symm)
theorem g1_pg (rd : Nat → Nat × Bool) (two root u : Nat) : g1 rd two root u = g1 rd two root (u / 4096 * 4096) := go_pg 1 u (rd1 rd two) 4 0 root
theorem slK_pg (rd : Nat → Nat × Bool) (two u : Nat) : slK rd two u = slK rd two (u / 4096 * 4096) := by
  unfold slK
  rw [go_pg 2 u rd 4 0 two]
  exact ite_congr (propext ⟨fun c => by omega, fun c => by omega⟩) (fun _ => rfl) (fun _ => rfl)
theorem slN_pg (rd : Nat → Nat × Bool) (two u : Nat) : slN rd two u = slN rd two (u / 4096 * 4096) := by
  unfold slN
  rw [go_pg 2 u rd 4 0 two]
  by_cases c : 1099511627776 ≤ u
  · rw [if_pos c, if_pos (by omega)]
  · rw [if_neg c, if_neg (by omega)]
theorem slL_pg (rd : Nat → Nat × Bool) (two u : Nat) : slL rd two u = slL rd two (u / 4096 * 4096) := by
  unfold slL
  rw [go_pg 2 u rd 4 0 two]
  exact ite_congr (propext ⟨fun c => by omega, fun c => by omega⟩) (fun _ => rfl) (fun _ => rfl)
theorem stP_pg (rd : Nat → Nat × Bool) (two root u : Nat) : stP rd two root u = stP rd two root (u / 4096 * 4096) := by
  unfold stP
  rw [g1_pg rd two root u, at_pg]

/-! ### the same answers -/
def eqD (x y : DV) : Bool := x.k == y.k && x.a == y.a && x.r == y.r && x.q == y.q && x.x == y.x && x.f == y.f
def eqS (x y : SV) : Bool := x.l == y.l && x.p == y.p && x.u == y.u && eqD x.d y.d
def eqL : List SV → List SV → Bool
  | [], [] => true
  | x :: L, y :: K => eqS x y && eqL L K
  | _, _ => false
theorem eqS_of {x y : SV} (h : eqS x y = true) : x = y := by
  obtain ⟨l, p, u, ⟨k, a, r, q, z, f⟩⟩ := x
  obtain ⟨l', p', u', ⟨k', a', r', q', z', f'⟩⟩ := y
  unfold eqS eqD at h
  simp only [Bool.and_eq_true, beq_iff_eq] at h
  obtain ⟨⟨⟨h1, h2⟩, h3⟩, ⟨⟨⟨⟨h4, h5⟩, h6⟩, h7⟩, h8⟩, h9⟩ := h
  subst h1 h2 h3 h4 h5 h6 h7 h8 h9
  rfl
theorem eqL_of : ∀ {L K : List SV}, eqL L K = true → L = K
  | [], [], _ => rfl
  | x :: L, y :: K, h => by
    rw [eqL, Bool.and_eq_true] at h
    rw [eqS_of h.1, eqL_of h.2]
  | [], _ :: _, h => by cases h
  | _ :: _, [], h => by cases h
/-- Two memories tell the same of the page at u. -/
def sameB (rd rd' : Nat → Nat × Bool) (u : Nat) : Bool :=
  (g1 rd 4096 0 u).2.1 == 0 && (g1 rd' 4096 0 u).2.1 == 0 && eqL (g1 rd' 4096 0 u).1 (g1 rd 4096 0 u).1 && sumN rd' 4096 (g1 rd 4096 0 u).1 == sumN rd 4096 (g1 rd 4096 0 u).1
    && ((g1 rd 4096 0 u).1.getLastD zS).l == 3 && ((g1 rd 4096 0 u).1.getLastD zS).d.k == 3 && ((g1 rd 4096 0 u).1.getLastD zS).d.a % 4096 == 0 && decide (((g1 rd 4096 0 u).1.getLastD zS).d.a < 1099511627776)
    && (goW 2 ((g1 rd 4096 0 u).1.getLastD zS).d.a rd' 4 0 4096).2.1 == (goW 2 ((g1 rd 4096 0 u).1.getLastD zS).d.a rd 4 0 4096).2.1
    && eqL (goW 2 ((g1 rd 4096 0 u).1.getLastD zS).d.a rd' 4 0 4096).1 (goW 2 ((g1 rd 4096 0 u).1.getLastD zS).d.a rd 4 0 4096).1
theorem out_pg (u a : Nat) (ha : a % 4096 = 0) (hl : a < 1099511627776) : outN u 3 3 a / 4096 * 4096 = a := by
  unfold outN inN
  rw [if_pos (by decide), show spn 3 = 4096 from rfl, if_neg (by decide)]
  omega
theorem same_on {rd rd' : Nat → Nat × Bool} {u : Nat} (h : sameB rd rd' (u / 4096 * 4096) = true) (acc : Int) (o : OV) (f : FV) (n : Nat) (hc : onC rd 4096 0 u acc o f n) : onC rd' 4096 0 u acc o f n := by
  unfold sameB at h
  rw [← g1_pg rd 4096 0 u, ← g1_pg rd' 4096 0 u] at h
  simp only [Bool.and_eq_true, beq_iff_eq, decide_eq_true_eq] at h
  obtain ⟨⟨⟨⟨⟨⟨⟨⟨⟨h1, h2⟩, h3⟩, h4⟩, h5⟩, h6⟩, h7⟩, h8⟩, h9⟩, hA⟩ := h
  have e1 := eqL_of h3
  have eF : flF rd' 4096 0 u = flF rd 4096 0 u := by
    unfold flF
    rw [if_neg (by rw [h2]; decide), if_pos h2, if_neg (by rw [h1]; decide), if_pos h1]
  have eL : flL rd' 4096 0 u = flL rd 4096 0 u := by
    unfold flL
    rw [if_pos h2, if_pos h1, e1]
  have eN : flN rd' 4096 0 u = flN rd 4096 0 u := by
    unfold flN
    rw [if_neg (by rw [h2]; decide), if_neg (by rw [h1]; decide), e1, h4]
  have eZ : flL rd 4096 0 u = (g1 rd 4096 0 u).1.getLastD zS := by unfold flL; rw [h1, if_pos rfl]
  rw [← eZ] at h5 h6 h7 h8 h9 hA
  have eG := eqL_of hA
  have eP := out_pg u (flL rd 4096 0 u).d.a h7 h8
  have hq : outN u (flL rd 4096 0 u).l (flL rd 4096 0 u).d.k (flL rd 4096 0 u).d.a = outN u 3 3 (flL rd 4096 0 u).d.a := by rw [h5, h6]; rfl
  have e5 : slK rd' 4096 (outN u 3 3 (flL rd 4096 0 u).d.a) = slK rd 4096 (outN u 3 3 (flL rd 4096 0 u).d.a) := by
    rw [slK_pg rd', slK_pg rd, eP]
    unfold slK
    rw [h9]
  have e6 : slL rd' 4096 (outN u 3 3 (flL rd 4096 0 u).d.a) = slL rd 4096 (outN u 3 3 (flL rd 4096 0 u).d.a) := by
    rw [slL_pg rd', slL_pg rd, eP]
    unfold slL
    rw [h9, eG]
  have e7 : slN rd' 4096 (outN u 3 3 (flL rd 4096 0 u).d.a) = slN rd 4096 (outN u 3 3 (flL rd 4096 0 u).d.a) := by
    rw [slN_pg rd', slN_pg rd, eP]
    unfold slN
    rw [eG]
  have e8 : seK rd' 4096 (outN u 3 3 (flL rd 4096 0 u).d.a) acc = seK rd 4096 (outN u 3 3 (flL rd 4096 0 u).d.a) acc := by unfold seK; rw [e5, e6]
  have e9 : seO rd' 4096 (outN u 3 3 (flL rd 4096 0 u).d.a) acc = seO rd 4096 (outN u 3 3 (flL rd 4096 0 u).d.a) acc := by unfold seO; rw [e8, e6]
  have e10 : seF rd' 4096 (outN u 3 3 (flL rd 4096 0 u).d.a) acc = seF rd 4096 (outN u 3 3 (flL rd 4096 0 u).d.a) acc := by unfold seF; rw [e8]
  unfold onC at hc ⊢
  rw [eF, eL, eN, hq, e7, e8, e9, e10]
  rw [hq] at hc
  exact hc

/-! ### the world, with a page of the first stage's tables taken away, and laid elsewhere -/
def thr1 (lv : Nat) : Nat → Nat → Nat := updM (lay3 16) 4 lv 0
def thr2 (lv : Nat) : Nat → Nat → Nat := updM (zerM (cpM (thr1 lv) 36 (frN lv)) (frN lv)) 4 lv (dencN 2 3 3 147456 true false false 0)
def lackB (lv a : Nat) : Bool :=
  (g1 (rdM (thr1 lv)) 4096 0 (a * 4096)).2.1 == -1 && (flF (rdM (thr1 lv)) 4096 0 (a * 4096)).s == 2 && (flF (rdM (thr1 lv)) 4096 0 (a * 4096)).k == 1 && (flF (rdM (thr1 lv)) 4096 0 (a * 4096)).l == (lv : Int) && (flF (rdM (thr1 lv)) 4096 0 (a * 4096)).a == lv * 4096 + 8 * (if lv = 3 then a else 0)
theorem lack_all : ((List.range 4).all fun lv => (List.range 16).all fun a => lackB lv a) = true := by kernel_rfl
theorem same_all : ((List.range 4).all fun lv => (List.range 16).all fun a => sameB (rdM (lay3 16)) (rdM (thr2 lv)) (a * 4096)) = true := by kernel_rfl
theorem lack_of {lv u : Nat} (hl : lv < 4) (hu : u < 65536) (acc : Int) : onC (rdM (thr1 lv)) 4096 0 u acc zO ⟨2, 1, (lv : Int), lv * 4096 + 8 * (if lv = 3 then u / 4096 else 0), acc == 2⟩ (flN (rdM (thr1 lv)) 4096 0 u) := by
  have h := List.all_eq_true.1 lack_all lv (List.mem_range.2 hl)
  have h := List.all_eq_true.1 h (u / 4096) (List.mem_range.2 (by omega))
  unfold lackB at h
  simp only [Bool.and_eq_true, beq_iff_eq] at h
  obtain ⟨⟨⟨⟨h1, h2⟩, h3⟩, h4⟩, h5⟩ := h
  have e : flF (rdM (thr1 lv)) 4096 0 u = flF (rdM (thr1 lv)) 4096 0 (u / 4096 * 4096) := by
    unfold flF
    rw [g1_pg _ 4096 0 u, h1, if_pos rfl, if_pos rfl, stP_pg _ 4096 0 u]
  refine .inl ⟨?_, rfl, ?_, rfl⟩
  · rw [e, h3]; decide
  · rw [e, h2, h3, h4, h5]
theorem same_of {lv u : Nat} (hl : lv < 4) (hu : u < 65536) : sameB (rdM (lay3 16)) (rdM (thr2 lv)) (u / 4096 * 4096) = true := by
  have h := List.all_eq_true.1 same_all lv (List.mem_range.2 hl)
  exact List.all_eq_true.1 h (u / 4096) (List.mem_range.2 (by omega))

end Go.Proofs.Ytaldekfaebkpkaa
