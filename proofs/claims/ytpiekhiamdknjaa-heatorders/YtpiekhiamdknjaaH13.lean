/- HeatOrders: the heats are gathered. -/
import Derived.Test.YtpiekhiamdknjaaH12
import Derived.Test.YtpiekhiamdknjaaOpen
import Derived.Deep.RegionLaw
import Derived.Deep.DeepCutAuto
import Derived.Laws.AppendOwn
import Derived.Laws.OwnMore
import Derived.Laws.MakeOwn
import Derived.BigQuiet
import Derived.Deep.CutBlock
namespace Go.Proofs.Ytpiekhiamdknjaa
open Go.RowKit Go.Sort Go.Shelf Go.Lib

/-- append to a row of the call's own, as one step of a region that draws. -/
theorem step_append_own {P : Program} {ops : Array Oper} {o : Oper} {a : Act} {w : World} {K : Act → World → Prop} {Q : Exit → Act → World → Prop} {E : Prop}
    (hg : o.guard = none) (s x : Operand) (t : TypeId) (hop : o.op = Op.call { callee := Callee.builtin Builtin.append, args := #[s, x], argTypes := #[t, t] })
    (base : Nat) (e : TypeId) (i : TypeInfo) (z : Value) (size bytes : Nat) (h1 : P.underlying t = some (.slice e)) (h2 : P.info? e = some i) (h3 : i.zero = some z) (h4 : i.size = size) (h5 : i.bytes = bytes) (h6 : z.cells.size = size) (h7 : 0 < size)
    (v : Value) (n : Nat) (xs : List Value) (hs : a.eval s = v) (hown : w.ownsRow base e size v n xs)
    (ad : Addr) (m c : Nat) (news : List Value) (hx : a.eval x = .slice (some ad) m c) (hn : news.length = m * size) (hc : ∀ (j : Nat) (u : Value), news[j]? = some u → w.cell? (ad.add j) = some u) (h1c : ∀ u ∈ news, u.oneCell' = true)
    (h63 : n + m ≤ maxLen) (hby : (n + m) * bytes ≤ 140737488355328) (hb : base ≤ w.heap.size)
    (hK : ∀ v' w', w'.ownsRow base e size v' (n + m) (xs ++ news) → w.grownBy w' v.ownBlock → K (a.put o.dst v') w') :
    if Region.wanted o (yielded ops a.tmps) = true then Oper.wp P o a w K Q else E := by
  have hw : Region.wanted o (yielded ops a.tmps) = true := by simp [Region.wanted, hg]
  rw [if_pos hw]
  obtain ⟨v', w', hrun, k1, k2, _⟩ := run_append_own (P := P) w base t o.type e i z size bytes h1 h2 h3 h4 h5 h6 h7 v n xs hown ad m c news hn hc h1c h63 hby hb
  unfold Oper.wp
  simp [execOp, hop, resolve, invoke, builtin, hs, hx, hrun, Result.andThen]
  exact hK v' w' k1 k2

theorem info_cx : ∃ i, Try.prog.info? 22 = some i ∧ i.zero = some (.complex .f64 0 0) ∧ i.size = 1 ∧ i.bytes = 16 := by
  have h : (Try.prog.info? 22).map (fun i => (i.zero, i.size, i.bytes)) = some (some (.complex .f64 0 0), 1, 16) := by kernel_rfl
  obtain ⟨i, hi, e⟩ := Option.map_eq_some_iff.1 h
  simp only [Prod.mk.injEq] at e
  exact ⟨i, hi, e.1, e.2.1, e.2.2⟩

/-- The heat that a number gives. -/
def numH (x : Int) : Int × Int := (x % 4, x / 4 % 4)
def numV (x : Int) : Value := .complex .f64 (floatOfInt .f64 (numH x).1) (floatOfInt .f64 (numH x).2)

theorem ownsRow_gr {w w' : World} {base size n : Nat} {e : TypeId} {v : Value} {xs : List Value} (h : w.ownsRow base e size v n xs) (g : Gr w w') : w'.ownsRow base e size v n xs := by
  obtain ⟨q, os, rfl⟩ := g
  refine ⟨h.1, ?_⟩
  rcases h.2 with k | ⟨r, cap, cur, k1, k2, k3, k4⟩
  · exact .inl k
  · have hr : r < (w.drewN q).heap.size := by
      have := Array.getElem?_eq_some_iff.1 k3
      exact this.1
    exact .inr ⟨r, cap, cur, k1, k2, by rw [heap_grow_old (w.drewN q) os hr]; exact k3, k4⟩

/-- All that lay in w lies in w' as it did, but for the row of the call's own. -/
theorem kp_grown {w0 w w' : World} {base size n : Nat} {e : TypeId} {v : Value} {xs : List Value} (g : Kp w0 w) (ho : w.ownsRow base e size v n xs) (hb : w0.heap.size ≤ base) (h : w.grownBy w' v.ownBlock) : Kp w0 w' :=
  RowKit.Below.grown g h g.size (fun k hk => Nat.le_trans hb (ho.lt k hk).1)

theorem info_bool : ∃ i, Try.prog.info? 4 = some i ∧ i.zero = some (.bool false) ∧ i.size = 1 ∧ i.bytes = 1 := by
  have h : (Try.prog.info? 4).map (fun i => (i.zero, i.size, i.bytes)) = some (some (.bool false), 1, 1) := by kernel_rfl
  obtain ⟨i, hi, e⟩ := Option.map_eq_some_iff.1 h
  simp only [Prod.mk.injEq] at e
  exact ⟨i, hi, e.1, e.2.1, e.2.2⟩
theorem make_bools (n : Nat) (w : World) (hn : n ≤ 1000) :
    (Instr.makeSlice 32 (.int .i64 (n : Int)) (.int .i64 (n : Int))).run Try.prog w = .ok (.slice (some ⟨w.heap.size, 0, none⟩) n n) (w.alloc (.cells (madeCells #[.bool false] n) 4)) := by
  obtain ⟨i0, hi, hz0, hz1, hz2⟩ := info_bool
  have := run_make (P := Try.prog) w 32 4 i0 (.bool false) Try.underlying32 hi hz0 .i64 .i64 n n (by omega) (by omega) (by rw [hz2]; omega) (by omega)
  rw [hz1, Nat.mul_one] at this
  exact this
theorem madeB_get (n j : Nat) (h : j < n) : (madeCells #[Value.bool false] n)[j]? = some (.bool false) := by
  simp [madeCells, h, Nat.mod_one]

/-- w is W but for the block sb and draws; the n marks of sb are sn. -/
structure St (W : World) (sb n : Nat) (sn : Nat → Bool) (w : World) : Prop where
  os : w.os = W.os
  tape : w.tape = W.tape
  output : w.output = W.output
  size : w.heap.size = W.heap.size
  block : ∀ k, k ≠ sb → w.heap[k]? = W.heap[k]?
  cell : ∀ p, p < n → w.cell? ⟨sb, p, none⟩ = some (.bool (sn p))
  frz : ∀ p, p < n → w.frozen? ⟨sb, p, none⟩ = false
theorem St.cellAt {W w : World} {sb n : Nat} {sn : Nat → Bool} (h : St W sb n sn w) {a : Addr} {v : Value} (hne : a.block ≠ sb) (hv : W.cell? a = some v) : w.cell? a = some v := by
  rw [World.cell?_of_block (w := W) (h.block a.block hne)]; exact hv
theorem St.drewN {W w : World} {sb n : Nat} {sn : Nat → Bool} (h : St W sb n sn w) (q : Nat) : St W sb n sn (w.drewN q) := ⟨h.os, h.tape, h.output, h.size, h.block, h.cell, h.frz⟩
theorem St.set {W w : World} {sb n : Nat} {sn : Nat → Bool} (h : St W sb n sn w) (p : Nat) (hp : p < n) : St W sb n (fun q => if q = p then true else sn q) (w.setCell ⟨sb, p, none⟩ (.bool true)) := by
  refine ⟨h.os, h.tape, h.output, ?_, fun k hk => ?_, fun q hq => ?_, fun q hq => ?_⟩
  · have := h.size; simpa [World.setCell] using this
  · rw [RowKit.Below.heap_setCell _ _ _ _ hk]; exact h.block k hk
  · by_cases e : q = p
    · subst e; simp only [if_true]; exact World.cell?_setCell_same _ _ _ (h.cell q hq)
    · rw [if_neg e, World.cell?_setCell_other _ _ _ _ (by intro z; simp only [Addr.mk.injEq] at z; exact e z.2.1.symm)]; exact h.cell q hq
  · rw [World.frozen?_setCell]; exact h.frz q hq
theorem St.kp {W0 W w : World} {sb n : Nat} {sn : Nat → Bool} (h : St W sb n sn w) (g : Kp W0 W) (hb : W0.heap.size ≤ sb) : Kp W0 w :=
  ⟨h.os.trans g.os, h.tape.trans g.tape, h.output.trans g.output, by rw [h.size]; exact g.size, fun k hk => (h.block k (by omega)).trans (g.block k hk)⟩
theorem St.made (w : World) (n : Nat) : St (w.alloc (.cells (madeCells #[.bool false] n) 4)) w.heap.size n (fun _ => false) (w.alloc (.cells (madeCells #[.bool false] n) 4)) :=
  ⟨rfl, rfl, rfl, rfl, fun _ _ => rfl, fun p hp => by rw [World.cell?_alloc_at _ _ _ _ rfl]; exact madeB_get n p hp, fun p _ => by rw [World.frozen?_alloc_at _ _ _ _ rfl]⟩

theorem HS.kp {w w' : World} {hb ho n : Nat} {A B : Nat → Nat} {h : Nat → Int × Int} (H : HS w hb ho n A B h) (g : Kp w w') : HS w' hb ho n A B h :=
  ⟨Nat.lt_of_lt_of_le H.lt g.size, fun i hi => by rw [RowKit.Below.cell g (p := ⟨hb, ho + i, none⟩) H.lt]; exact H.cell i hi, H.fa, H.fb, H.rh⟩

/-- The words of a gathered heat. -/
def wA (f : Nat → Int) (j : Nat) : Nat := floatOfInt .f64 (numH (f j)).1
def wB (f : Nat → Int) (j : Nat) : Nat := floatOfInt .f64 (numH (f j)).2
theorem numH_rh (x : Int) : RH (numH x).1 (numH x).2 := by unfold numH; constructor <;> simp <;> omega
theorem HS_of {w : World} {base g n cap : Nat} {f : Nat → Int} (h : w.ownsRow base 22 1 (.slice (some ⟨g, 0, none⟩) n cap) n ((List.range n).map fun j => numV (f j))) : HS w g 0 n (wA f) (wB f) (fun j => numH (f j)) := {
  lt := (h.lt g rfl).2
  cell := fun i hi => by
    have := h.cellAt i (by omega)
    rw [Nat.zero_add, this]
    simp [hi, numV, wA, wB]
  fa := fun i _ => (numH_rh (f i)).fx.1
  fb := fun i _ => (numH_rh (f i)).fy.1
  rh := fun i _ => numH_rh (f i) }

/-- What the rank's order says of two neighbours. -/
theorem nbr {n : Nat} {h : Nat → Int × Int} {p q : Nat} (hp : p < n) (hq : q < n) (ht : T (ltN n h) q p = false) :
    (h p).1 * (h p).1 + (h p).2 * (h p).2 ≤ (h q).1 * (h q).1 + (h q).2 * (h q).2 ∧ ((h p).1 = (h q).1 → (h p).2 = (h q).2 → p ≤ q) := by
  have el : ltN n h q p = hlt (h q) (h p) := by unfold ltN; rw [Nat.mod_eq_of_lt hp, Nat.mod_eq_of_lt hq]
  have er : ltN n h p q = hlt (h p) (h q) := by unfold ltN; rw [Nat.mod_eq_of_lt hp, Nat.mod_eq_of_lt hq]
  have h1 : hlt (h q) (h p) = false := by
    cases e : hlt (h q) (h p) with
    | false => rfl
    | true => have := T_true.2 (Or.inl (el.trans e)); rw [ht] at this; cases this
  constructor
  · simp only [hlt, lessB, decide_eq_false_iff_not] at h1
    omega
  · intro e1 e2
    rcases Nat.lt_or_ge q p with z | z
    · exfalso
      have e3 : h p = h q := Prod.ext e1 e2
      have h5 : ltN n h p q = false := by rw [er, e3]; exact hlt_swo.irrefl _
      have := (T_true (lt := ltN n h)).2 (Or.inr ⟨h5, z⟩)
      rw [ht] at this; cases this
    · exact z

set_option maxHeartbeats 4000000 in
set_option maxRecDepth 1000000 in
theorem orders_x (la : Option Addr) (ln lcap : Nat) (f : Nat → Int) (na : Option Addr) (m mcap : Nat) (nb : Nat → Bool) (w : World) (I : IS w la ln f) (N : NS w na m nb) (hSort : ∀ n, n ≤ 40 → SortC n) :
    Calls Try.prog 4 #[.slice la ln lcap, .slice na m mcap] w fun e w' => e = .returned (.bool true) ∧ Kp w w' := by
  have mixed : Try.prog.follows .mixedOrders = true := by kernel_rfl
  have II : Aside (IS w la ln f) := I
  have NN : Aside (NS w na m nb) := N
  clear I N
  go_enter Try.func4, Try.ntmps4
  go_upto_block 0 with fail
  go_cut [5, 6] (fun v5 v6 wx => ∃ (n : Nat) (v : Value), v = v5 ∧ v6 = .int .i64 n ∧ n ≤ 40 ∧ Aside (wx.ownsRow w.heap.size 22 1 v n ((List.range n).map fun j => numV (f j))) ∧ Aside (Kp w wx) ∧ Aside (n = 0 → v = .slice none 0 0))
  case first =>
    go_wp2_with fail
    go_loopg [5, 6] 40 (fun g v5 v6 wr => ∃ (i : Nat) (v : Value), v = v5 ∧ v6 = .int .i64 i ∧ i ≤ ln ∧ i ≤ 40 ∧ 40 - i ≤ g ∧ Aside (wr.ownsRow w.heap.size 22 1 v i ((List.range i).map fun j => numV (f j))) ∧ Aside (Kp w wr) ∧ Aside (i = 0 → v = .slice none 0 0))
    case atStart => exact ⟨0, _, rfl, by go_num, by omega, by omega, by omega, (show Aside _ from World.ownsRow_nil _ _ _ _), (show Aside _ from Kp.refl w), (show Aside _ from fun _ => rfl)⟩
    case round =>
      obtain ⟨i, v, rfl, rfl, hi, hi40, hg, O1, K1, V1⟩ := hrel
      by_cases hlt : i < ln ∧ i < 40
      · obtain ⟨h1, h2⟩ := hlt
        obtain ⟨b, o, rfl, hb1, hb2⟩ := II.out i h1
        have hb3 : wr.cell? ⟨b, o + i, none⟩ = some (.int .i64 (f i)) := by rw [RowKit.Below.cell K1.out (p := ⟨b, o + i, none⟩) hb1]; exact hb2
        have y1 : (i : Int) < ln := by omega
        have y2 : (i : Int) < 40 := by omega
        have y3 : (i : Int).toNat = i := by omega
        have e1 := mask2 (f i)
        have e2 := mask2 (f i / 4)
        obtain ⟨i0, hi0, hz0, hz1, hz2⟩ := info_cx
        obtain ⟨p, hp⟩ : ∃ p, f i % 4 = p := ⟨_, rfl⟩
        obtain ⟨q, hq⟩ : ∃ q, f i / 4 % 4 = q := ⟨_, rfl⟩
        rw [hp] at e1
        rw [hq] at e2
        have LAY : Aside (∀ (W W' : World) (v' : Value), W = (wr.alloc (.cells #[.complex .f64 (floatOfInt .f64 p) (floatOfInt .f64 q)] 22)).drew → W'.ownsRow w.heap.size 22 1 v' (i + 1) (((List.range i).map fun j => numV (f j)) ++ [.complex .f64 (floatOfInt .f64 p) (floatOfInt .f64 q)]) → W.grownBy W' v.ownBlock → W'.ownsRow w.heap.size 22 1 v' (i + 1) ((List.range (i + 1)).map fun j => numV (f j)) ∧ Kp w W') := by
          intro W W' v' hW h1 h2
          have e : numV (f i) = .complex .f64 (floatOfInt .f64 p) (floatOfInt .f64 q) := by unfold numV numH; rw [hp, hq]
          refine ⟨by rw [List.range_succ, List.map_append]; simp only [List.map_cons, List.map_nil, e]; exact h1, ?_⟩
          have g : Gr wr W := by rw [hW]; exact (Gr.alloc _ _).trans (Gr.drew _)
          exact kp_grown (K1.out.trans g.kp) (ownsRow_gr O1.out g) (Nat.le_refl _) h2
        have OWN : Aside (∀ W : World, W = (wr.alloc (.cells #[.complex .f64 (floatOfInt .f64 p) (floatOfInt .f64 q)] 22)).drew → W.ownsRow w.heap.size 22 1 v i ((List.range i).map fun j => numV (f j))) := fun W hW => by subst hW; exact ownsRow_gr O1.out ((Gr.alloc _ _).trans (Gr.drew _))
        have SZ : Aside (w.heap.size ≤ wr.heap.size) := K1.out.size
        clear hb1 hb2 hp hq O1 K1
        go_wp2_with fail
        go_region_law (first
          | (refine step_append_own rfl (.tmp 27) (.tmp 40) 33 rfl w.heap.size 22 i0 (.complex .f64 0 0) 1 16 Try.underlying33 hi0 hz0 hz1 hz2 rfl (by decide) v i ((List.range i).map fun j => numV (f j)) (by simp [Act.eval, Act.put]) (OWN.out _ rfl) ⟨wr.heap.size, 0, none⟩ 1 1 [.complex .f64 (floatOfInt .f64 p) (floatOfInt .f64 q)] (by simp [Act.eval, Act.put]) rfl (fun j u hj => by (match j, hj with | 0, hj => (cases hj; simp [Addr.add, go_sem]) | j + 1, hj => simp at hj)) (fun u hu => by simp at hu; subst hu; rfl) (by simp [maxLen]; omega) (by omega) (by have := SZ.out; simp; omega) ?_; intro v' w' hown hgrow; obtain ⟨O2, K2⟩ := LAY.out _ _ _ rfl hown hgrow)
          | (rw [if_pos (by simp [Region.wanted])]; go_simp; go_at_call 7; refine (make_any _ _ _).mono ?_; rintro e w1 ⟨rfl, rfl⟩))
        all_goals go_wp2
        all_goals
          go_roundg (40 - (i + 1))
          case measure => omega
          case rel => exact ⟨i + 1, _, rfl, by go_num, by omega, by omega, by omega, O2, K2, (show Aside _ from fun z => by omega)⟩
      · have out : ∀ Z : Prop, (¬ (i : Int) < ln → Z) → ((i : Int) < ln → ¬ (i : Int) < 40 → Z) → Z := fun Z k1 k2 => by
          by_cases h : i < ln
          · exact k2 (by omega) (by omega)
          · exact k1 (by omega)
        refine out _ (fun y1 => ?_) (fun y1 y2 => ?_)
        · clear out hlt
          go_wp2_with fail
          go_meet
          case rel => exact ⟨i, v, rfl, rfl, hi40, O1, K1, V1⟩
        · clear out hlt
          go_wp2_with fail
          go_meet
          case rel => exact ⟨i, v, rfl, rfl, hi40, O1, K1, V1⟩
  case rest =>
    obtain ⟨n, v, rfl, rfl, hn, O1, K1, V1⟩ := hcut
    by_cases hn0 : n = 0
    · subst hn0
      obtain rfl : v = .slice none 0 0 := V1.out rfl
      have hmk := fun w => make_bools 0 w (by omega)
      simp only [Int.natCast_zero] at hmk
      go_wp2_with (go_at_call 13; with_reducible refine (rank_nil _).mono ?_; rintro e w1 ⟨ra, rfl, g1⟩)
      refine wp_loop_rounds 1 ?_
      rw [rounds_succ]
      go_wp2_with (first | (go_at_call 12; with_reducible refine (told_any _).mono ?_; rintro e w2 ⟨rfl, g2⟩) | (go_at_call 15; with_reducible refine (coldest_nil _ _ _ _).mono ?_; rintro e w3 ⟨rfl, rfl⟩))
      go_ret
      exact ⟨rfl, K1.out.trans (g1.trans ((Gr.alloc _ _).kp.trans g2))⟩
    · obtain ⟨g, cap, rfl⟩ : ∃ g cap, v = .slice (some ⟨g, 0, none⟩) n cap := by
        rcases O1.out.2 with ⟨_, k⟩ | ⟨r, cap, cur, k1, _⟩
        · exact absurd k hn0
        · exact ⟨r, cap, k1⟩
      have hpos : 0 < n := by omega
      have H0 := HS_of O1.out
      have c1 := rank_any g 0 n cap (wA f) (wB f) (fun j => numH (f j)) wc H0 hpos hn (hSort n hn)
      have HK : Aside (HS wc g 0 n (wA f) (wB f) (fun j => numH (f j))) := H0
      have hmk := fun w => make_bools n w (by omega)
      have zn : (n : Int) ≤ 40 := by omega
      clear H0 O1 V1 hn0
      go_wp2_with (go_at_call 13; with_reducible refine c1.mono ?_; rintro e w1 ⟨d, rb, rfl, hP, hT, hrb0, hrb, hrc, g1⟩)
      clear c1 hmk
      have F1 : Aside (Kp w (w1.alloc (.cells (madeCells #[.bool false] n) 4))) := K1.out.trans (g1.trans (Gr.alloc _ _).kp)
      have F2 : Aside (HS (w1.alloc (.cells (madeCells #[.bool false] n) 4)) g 0 n (wA f) (wB f) (fun j => numH (f j))) := HK.out.kp (g1.trans (Gr.alloc _ _).kp)
      have F3 : Aside (NS (w1.alloc (.cells (madeCells #[.bool false] n) 4)) na m nb ∧ ∀ i, i < m → ∃ b o, na = some ⟨b, o, none⟩ ∧ b < w1.heap.size) := ⟨(NN.out.kp K1.out).kp (g1.trans (Gr.alloc _ _).kp), fun i hi => by obtain ⟨b, o, k1, k2, _⟩ := (NN.out.kp K1.out).kp g1 i hi; exact ⟨b, o, k1, k2⟩⟩
      have F4 : Aside (∀ i, i < n → (w1.alloc (.cells (madeCells #[.bool false] n) 4)).cell? ⟨rb, i, none⟩ = some (.int .i64 (d[i]! : Nat))) := fun i hi => by rw [World.cell?_alloc_old _ _ _ (by show rb ≠ _; omega)]; exact hrc i hi
      have F5 : Aside (St (w1.alloc (.cells (madeCells #[.bool false] n) 4)) w1.heap.size n (fun _ => false) (w1.alloc (.cells (madeCells #[.bool false] n) 4))) := St.made w1 n
      have F6 : Aside (PermIn 0 n (Array.range n) d ∧ SortedIn (T (ltN n (fun j => numH (f j)))) 0 n d) := ⟨hP, hT⟩
      have F7 : Hid (g < w1.heap.size ∧ rb < w1.heap.size ∧ w.heap.size ≤ w1.heap.size) := ⟨(HK.out.kp g1).lt, hrb, (K1.out.trans g1).size⟩
      generalize w1.alloc (.cells (madeCells #[.bool false] n) 4) = W2 at F1 F2 F3 F4 F5 ⊢
      generalize w1.heap.size = sb at F3 F5 F7 ⊢
      clear hP hT hrb0 hrb hrc g1 HK K1 NN
      go_wp2_with fail
      go_loopg [9, 10] n (fun g1 v9 v10 wr => ∃ (i : Nat) (sn : Nat → Bool), v9 = .int .i64 (firstI nb m d i) ∧ v10 = .int .i64 i ∧ i ≤ n ∧ n - i ≤ g1 ∧ Aside (St W2 sb n sn wr) ∧ Aside (∀ p, p < n → sn p = true → ∃ j, j < i ∧ d[j]! = p))
      case atStart => exact ⟨0, _, rfl, by go_num, by omega, by omega, F5, (show Aside _ from fun p _ z => by cases z)⟩
      case round =>
        clear F5
        obtain ⟨i, sn, rfl, rfl, hi, hg, S1, E1⟩ := hrel
        obtain ⟨hg1, hrb1, hw1⟩ := F7.out
        by_cases hlt : i < n
        · have y1 : (i : Int) < n := by omega
          have y2 : (i : Int).toNat = i := by omega
          obtain ⟨ri, hri⟩ : ∃ ri, ri = d[i]! := ⟨_, rfl⟩
          have hrn : ri < n := by rw [hri]; exact rank_lt F6.out.1 i hlt
          have r1 : ¬ (ri : Int) < 0 := by omega
          have r2 : ¬ (n : Int) ≤ (ri : Int) := by omega
          have r3 : (ri : Int) < n := by omega
          have r4 : (ri : Int).toNat = ri := by omega
          have hsf : sn ri = false := by
            cases e : sn ri with
            | false => rfl
            | true =>
              obtain ⟨j, j1, j2⟩ := E1.out ri hrn e
              have := rank_inj F6.out.1 j i (by omega) hlt (by rw [j2, hri])
              omega
          have c1 : wr.cell? ⟨rb, i, none⟩ = some (.int .i64 (ri : Int)) := by rw [hri]; exact S1.out.cellAt (by show rb ≠ sb; omega) (F4.out i hlt)
          have c2 := S1.out.cell ri hrn
          have c3 := S1.out.frz ri hrn
          rw [hsf] at c2
          have S2 : Aside (St W2 sb n (fun q => if q = ri then true else sn q) (wr.setCell ⟨sb, ri, none⟩ (.bool true))) := S1.out.set ri hrn
          have E2 : Aside (∀ p, p < n → (if p = ri then true else sn p) = true → ∃ j, j < i + 1 ∧ d[j]! = p) := fun p hp z => by
            by_cases e : p = ri
            · exact ⟨i, by omega, by rw [e, hri]⟩
            · rw [if_neg e] at z
              obtain ⟨j, j1, j2⟩ := E1.out p hp z
              exact ⟨j, by omega, j2⟩
          have c4 : (wr.setCell ⟨sb, ri, none⟩ (.bool true)).cell? ⟨rb, i, none⟩ = some (.int .i64 (ri : Int)) := by have := S2.out.cellAt (a := ⟨rb, i, none⟩) (by show rb ≠ sb; omega) (F4.out i hlt); rw [← hri] at this; exact this
          have HR : Hid (ri = d[i]!) := hri
          clear hri hsf S1 E1
          go_upto_if 88 with fail
          clear c1 c2 c3 c4
          generalize wr.setCell ⟨sb, ri, none⟩ (.bool true) = w3 at S2 ⊢
          go_cut [] (fun wx => Aside (St W2 sb n (fun q => if q = ri then true else sn q) wx))
          case first =>
            by_cases hi0 : i = 0
            · have z1 : ¬ (0 : Int) < (i : Int) := by omega
              clear hi0
              go_wp2_with fail
              go_meet
              case rel => exact S2
            · have z1 : (0 : Int) < (i : Int) := by omega
              obtain ⟨ip, hip⟩ : ∃ ip, ip + 1 = i := ⟨i - 1, by omega⟩
              obtain ⟨rp, hrp⟩ : ∃ rp, rp = d[ip]! := ⟨_, rfl⟩
              have hpn : rp < n := by rw [hrp]; exact rank_lt F6.out.1 ip (by omega)
              have z2 : (i : Int) - 1 = (ip : Int) := by omega
              have z3 : (ip : Int) < n := by omega
              have z4 : (ip : Int).toNat = ip := by omega
              have z5 : (rp : Int) < n := by omega
              have z6 : (rp : Int).toNat = rp := by omega
              have z7 : IntKind.i64.wrap (ip : Int) = (ip : Int) := by rw [IntKind.wrap_i64]; omega
              have k1 : w3.cell? ⟨rb, i, none⟩ = some (.int .i64 (ri : Int)) := by have := S2.out.cellAt (a := ⟨rb, i, none⟩) (by show rb ≠ sb; omega) (F4.out i hlt); rw [← HR.out] at this; exact this
              have k2 : w3.cell? ⟨rb, ip, none⟩ = some (.int .i64 (rp : Int)) := by have := S2.out.cellAt (a := ⟨rb, ip, none⟩) (by show rb ≠ sb; omega) (F4.out ip (by omega)); rw [← hrp] at this; exact this
              have k3 : w3.cell? ⟨g, ri, none⟩ = some (.complex .f64 (wA f ri) (wB f ri)) := by have := F2.out.cell ri hrn; rw [Nat.zero_add] at this; exact S2.out.cellAt (by show g ≠ sb; omega) this
              have k4 : w3.cell? ⟨g, rp, none⟩ = some (.complex .f64 (wA f rp) (wB f rp)) := by have := F2.out.cell rp hpn; rw [Nat.zero_add] at this; exact S2.out.cellAt (by show g ≠ sb; omega) this
              have hord := nbr hpn hrn (by rw [HR.out, hrp]; exact F6.out.2 ip i (by omega) (by omega) hlt)
              have Rp := numH_rh (f rp)
              have Ri := numH_rh (f ri)
              have n1 := fun w => rnorm_any (wA f rp) (wB f rp) _ _ w Rp.fx.1 Rp.fy.1 Rp.ax Rp.ay
              have n2 := fun w => rnorm_any (wA f ri) (wB f ri) _ _ w Ri.fx.1 Ri.fy.1 Ri.ax Ri.ay
              obtain ⟨M, hM⟩ : ∃ M, (numH (f rp)).1 * (numH (f rp)).1 + (numH (f rp)).2 * (numH (f rp)).2 = M := ⟨_, rfl⟩
              obtain ⟨N', hN'⟩ : ∃ N', (numH (f ri)).1 * (numH (f ri)).1 + (numH (f ri)).2 * (numH (f ri)).2 = N' := ⟨_, rfl⟩
              rw [hM] at n1
              rw [hN'] at n2
              have ord1 : M ≤ N' := by have := hord.1; simp only [hM, hN'] at this; exact this
              have zm : decide (M > N') = false := decide_eq_false (by omega)
              have zm' : ¬ N' < M := by omega
              have oA := ord_eq (FI_of_int (numH (f rp)).1 (by have := Rp.ax; omega)) (FI_of_int (numH (f ri)).1 (by have := Ri.ax; omega))
              have oB := ord_eq (FI_of_int (numH (f rp)).2 (by have := Rp.ay; omega)) (FI_of_int (numH (f ri)).2 (by have := Ri.ay; omega))
              have eA : (FloatKind.f64.format.order (wA f rp) (wA f ri) == some .eq) = decide ((numH (f rp)).1 = (numH (f ri)).1) := oA
              have eB : (FloatKind.f64.format.order (wB f rp) (wB f ri) == some .eq) = decide ((numH (f rp)).2 = (numH (f ri)).2) := oB
              by_cases hq : (numH (f rp)).1 = (numH (f ri)).1 ∧ (numH (f rp)).2 = (numH (f ri)).2
              · have hle : rp ≤ ri := hord.2 hq.1 hq.2
                have zl : decide ((rp : Int) > (ri : Int)) = false := decide_eq_false (by omega)
                have zl' : ¬ (ri : Int) < (rp : Int) := by omega
                have oAB : ((FloatKind.f64.format.order (wA f rp) (wA f ri) == some .eq) && (FloatKind.f64.format.order (wB f rp) (wB f ri) == some .eq)) = true := by rw [eA, eB, decide_eq_true hq.1, decide_eq_true hq.2]; rfl
                clear oA oB eA eB hq hM hN' hrp hord Rp Ri hip
                generalize wA f rp = a1 at *
                generalize wB f rp = a2 at *
                generalize wA f ri = a3 at *
                generalize wB f ri = a4 at *
                go_wp2_with fail
                go_quiet (fail)
                go_wp2_with (first | (go_at_call 14; with_reducible refine (n1 _).mono ?_; rintro e w' ⟨rfl, rfl⟩) | (go_at_call 14; with_reducible refine (n2 _).mono ?_; rintro e w' ⟨rfl, rfl⟩))
                go_quiet (fail)
                go_wp2_with fail
                go_meet
                case rel => exact (show Aside _ from (S2.out.drewN _).drewN _)
              · have oAB : ((FloatKind.f64.format.order (wA f rp) (wA f ri) == some .eq) && (FloatKind.f64.format.order (wB f rp) (wB f ri) == some .eq)) = false := by
                  rw [eA, eB]
                  by_cases c1 : (numH (f rp)).1 = (numH (f ri)).1
                  · by_cases c2 : (numH (f rp)).2 = (numH (f ri)).2
                    · exact absurd ⟨c1, c2⟩ hq
                    · rw [decide_eq_false c2, Bool.and_false]
                  · rw [decide_eq_false c1, Bool.false_and]
                clear oA oB eA eB hq hM hN' hrp hord Rp Ri hip
                generalize wA f rp = a1 at *
                generalize wB f rp = a2 at *
                generalize wA f ri = a3 at *
                generalize wB f ri = a4 at *
                go_wp2_with fail
                go_quiet (fail)
                go_wp2_with (first | (go_at_call 14; with_reducible refine (n1 _).mono ?_; rintro e w' ⟨rfl, rfl⟩) | (go_at_call 14; with_reducible refine (n2 _).mono ?_; rintro e w' ⟨rfl, rfl⟩))
                go_quiet (fail)
                go_wp2_with fail
                go_meet
                case rel => exact (show Aside _ from (S2.out.drewN _).drewN _)
          case rest =>
            clear S2
            have S2 := hcut
            have k1 : wc.cell? ⟨rb, i, none⟩ = some (.int .i64 (ri : Int)) := by have := S2.out.cellAt (a := ⟨rb, i, none⟩) (by show rb ≠ sb; omega) (F4.out i hlt); rw [← HR.out] at this; exact this
            have FI1 : firstI nb m d (i + 1) = if firstI nb m d i < 0 ∧ exB nb m ri = false then (ri : Int) else firstI nb m d i := by rw [firstI, ← HR.out]
            obtain ⟨fi, hfi⟩ : ∃ fi, firstI nb m d i = fi := ⟨_, rfl⟩
            rw [hfi] at FI1 ⊢
            have GI : Aside _ := FI1
            clear hfi FI1 hcut
            by_cases hf0 : fi < 0
            · by_cases hrm : ri < m
              · obtain ⟨nb1, no1, hna, hnb⟩ := F3.out.2 ri hrm
                have k2 := F3.out.1 ri hrm
                obtain ⟨nb2, no2, hna2, _, hc2⟩ := k2
                obtain ⟨rfl, rfl⟩ : nb1 = nb2 ∧ no1 = no2 := by rw [hna] at hna2; simpa using hna2
                have k3 : wc.cell? ⟨nb1, no1 + ri, none⟩ = some (.bool (nb ri)) := S2.out.cellAt (by show nb1 ≠ sb; omega) hc2
                have zr : (ri : Int) < m := by omega
                subst hna
                clear hna2 hc2
                cases hv : nb ri with
                | true =>
                  have G2 : Hid (firstI (nb) m d (i + 1) = fi) := by
                    show _ = _
                    rw [GI.out, if_neg (fun z => by have := z.2; unfold exB at this; simp [hrm, hv] at this)]
                  rw [hv] at k3
                  clear hv GI
                  go_wp2
                  go_roundg (n - (i + 1))
                  case measure => omega
                  case rel => exact ⟨i + 1, _, by rw [G2.out], by go_num, by omega, by omega, S2, E2⟩
                | false =>
                  have G2 : Hid (firstI (nb) m d (i + 1) = ri) := by
                    show _ = _
                    rw [GI.out, if_pos ⟨hf0, by unfold exB; simp [hv]⟩]
                  rw [hv] at k3
                  clear hv GI
                  go_wp2
                  go_roundg (n - (i + 1))
                  case measure => omega
                  case rel => exact ⟨i + 1, _, by rw [G2.out], by go_num, by omega, by omega, S2, E2⟩
              · have zr : ¬ (ri : Int) < m := by omega
                have G2 : Hid (firstI (nb) m d (i + 1) = ri) := by
                  show _ = _
                  rw [GI.out, if_pos ⟨hf0, by unfold exB; simp [hrm]⟩]
                clear GI
                go_wp2
                go_roundg (n - (i + 1))
                case measure => omega
                case rel => exact ⟨i + 1, _, by rw [G2.out], by go_num, by omega, by omega, S2, E2⟩
            · have G2 : Hid (firstI (nb) m d (i + 1) = fi) := by
                show _ = _
                rw [GI.out, if_neg (fun z => hf0 z.1)]
              clear GI
              go_wp2
              go_roundg (n - (i + 1))
              case measure => omega
              case rel => exact ⟨i + 1, _, by rw [G2.out], by go_num, by omega, by omega, S2, E2⟩
        · have y1 : ¬ (i : Int) < n := by omega
          obtain rfl : i = n := by omega
          have HC2 : Aside (∀ W3 : World, Kp wr W3 → Calls Try.prog 15 #[.slice (some ⟨g, 0, none⟩) i cap, .slice na m mcap] W3 fun e w' => e = .returned (.int .i64 (firstI nb m d i)) ∧ Gr W3 w') := by
            intro W3 gk
            have hs0 := S1.out.size
            have H3 : HS wr g 0 i (wA f) (wB f) (fun j => numH (f j)) := ⟨by rw [hs0]; exact F2.out.lt, fun j hj => S1.out.cellAt (by show g ≠ sb; omega) (F2.out.cell j hj), F2.out.fa, F2.out.fb, F2.out.rh⟩
            have N3 : NS wr na m nb := fun j hj => by
              obtain ⟨b1, o1, a1, a2⟩ := F3.out.2 j hj
              obtain ⟨b2, o2, a3, a4, a5⟩ := F3.out.1 j hj
              obtain ⟨rfl, rfl⟩ : b1 = b2 ∧ o1 = o2 := by rw [a1] at a3; simpa using a3
              exact ⟨b1, o1, a1, by rw [hs0]; exact a4, S1.out.cellAt (by show b1 ≠ sb; omega) a5⟩
            have := coldest_any g 0 i cap (wA f) (wB f) (fun j => numH (f j)) na m mcap nb W3 (H3.kp gk) (N3.kp gk) (by omega)
            rw [first_cold nb m (fun j => numH (f j)) F6.out.1 F6.out.2] at this
            exact this
          have KF : Aside (Kp w wr) := S1.out.kp F1.out (by omega)
          obtain ⟨fi, hfi⟩ : ∃ fi, firstI nb m d i = fi := ⟨_, rfl⟩
          rw [hfi] at HC2 ⊢
          clear hfi S1 E1 F1 F2 F3 F4 F6
          go_wp2_with (go_at_call 12; with_reducible refine (told_any _).mono ?_; rintro e w4 ⟨rfl, g4⟩)
          have c5 := HC2.out w4 g4
          go_wp2_with (go_at_call 15; with_reducible refine c5.mono ?_; rintro e w5 ⟨rfl, g5⟩)
          go_ret
          exact ⟨rfl, KF.out.trans (g4.trans g5.kp)⟩

end Go.Proofs.Ytpiekhiamdknjaa
