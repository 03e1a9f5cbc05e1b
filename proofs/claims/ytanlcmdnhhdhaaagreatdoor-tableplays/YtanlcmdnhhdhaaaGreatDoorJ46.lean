/- Joined: R6H, R7E, S5, R7F. -/
import Derived.Test.YtanlcmdnhhdhaaaGreatDoorJ29
import Derived.Test.YtanlcmdnhhdhaaaGreatDoorJ45
import Derived.Test.YtanlcmdnhhdhaaaGreatDoorJ39
import Derived.ProofKit
import Derived.OpenShut
import Derived.WalkKit
import Derived.Deep.Fields
/- A leaf in a list of leaves. -/
namespace Go.Proofs.YtanlcmdnhhdhaaaGreatDoor
open Go.RowKit
set_option maxRecDepth 10000

/-- Two lists of the same leaves: at each place they are alike. -/
theorem leaf_at {w : World} {na : Option Addr} {n cap : Nat} {A : List LV} (h : OL encL 58 7 w (.slice na n cap) A) {k : Nat} {x : LV} (hx : A[k]? = some x) : ∃ g, na = some ⟨g, 0, none⟩ ∧ n ≤ cap ∧ g < w.heap.size ∧ ∀ j z, (encL x)[j]? = some z → w.cell? ⟨g, k * 7 + j, none⟩ = some z := by
  obtain ⟨na', cap', e, hc, hh⟩ := OL.form h
  cases e
  rcases hh with ⟨_, _, rfl⟩ | ⟨g, rfl, hg⟩
  · cases hx
  · exact ⟨g, rfl, hc, hg, fun j z hz => OL.cell encL_ok h hx hz⟩
theorem ol_kp {w w' : World} {v : Value} {A : List LV} (h : OL encL 58 7 w v A) (k : Kp w w') : OL encL 58 7 w' v A := h.fr (k.fr (fun _ => False)) (fun _ _ => id)

end Go.Proofs.YtanlcmdnhhdhaaaGreatDoor

/- TablePlays: demesnelaw13.same. -/
namespace Go.Proofs.YtanlcmdnhhdhaaaGreatDoor
open Go.RowKit
set_option maxRecDepth 10000

set_option maxHeartbeats 4000000 in
theorem each_gone {w : World} {b : Nat} (h : TXn w b) (vis : Value) : Calls Tryz.prog 58 #[.pointer (some ⟨b, 0, none⟩), vis] w fun e w' => e = .returned (.tuple #[]) ∧ w' = w := by
  have c0 := h.c0
  clear h
  go_enter Tryz.func58, Tryz.ntmps58
  go_wp2
  go_end0
  exact ⟨rfl, rfl⟩
set_option maxHeartbeats 4000000 in
theorem leaves_gone {w : World} {b : Nat} (h : TXn w b) : Calls Tryz.prog 20 #[.pointer (some ⟨b, 0, none⟩)] w fun e w' => e = .returned (.slice none 0 0) ∧ Kp w w' := by
  obtain ⟨w1, hw1⟩ : ∃ w1, w1 = w.alloc (.cells #[.slice none 0 0] 70) := ⟨_, rfl⟩
  have k1 : Kp w w1 := by rw [hw1]; exact (Kp.refl w).alloc _
  have c1 : w1.cell? ⟨w.heap.size, 0, none⟩ = some (.slice none 0 0) := by rw [hw1, cell_of_row _ _ 0 _ _ _ (heap_alloc_new w _)]; rfl
  have KE : Aside (Calls Tryz.prog 58 #[.pointer (some ⟨b, 0, none⟩), .func (.func 59) #[] #[.pointer (some ⟨w.heap.size, 0, none⟩)]] w1 fun e w' => e = .returned (.tuple #[]) ∧ w' = w1) := each_gone (h.kp k1) _
  have hmf : ∀ (fn : Fn) (first cap : Array Value) (w : World), (Instr.makeFunc fn first cap).run Tryz.prog w = .ok (.func fn first cap) w := fun _ _ _ _ => rfl
  have HK : Hid (Kp w w1) := k1
  clear h k1
  go_enter Tryz.func20, Tryz.ntmps20
  go_wp2_with fail
  rw [← hw1]
  with_reducible refine KE.out.mono ?_
  rintro e w2 ⟨rfl, rfl⟩
  clear KE hw1
  go_wp2
  go_ret
  exact ⟨rfl, HK.out⟩
set_option maxHeartbeats 4000000 in
theorem tables_gone {w : World} {b : Nat} (h : TXn w b) : Calls Tryz.prog 66 #[.pointer (some ⟨b, 0, none⟩)] w fun e w' => e = .returned (.slice none 0 0) ∧ w' = w := by
  have c0 := h.c0
  clear h
  go_enter Tryz.func66, Tryz.ntmps66
  go_wp2
  go_ret
  exact ⟨rfl, rfl⟩
set_option maxHeartbeats 4000000 in
theorem tcount_gone {w : World} {b : Nat} (h : TXn w b) : Calls Tryz.prog 24 #[.pointer (some ⟨b, 0, none⟩)] w fun e w' => e = .returned (.int .i64 0) ∧ w' = w := by
  have k1 := tables_gone h
  clear h
  go_enter Tryz.func24, Tryz.ntmps24
  go_wp2_with fail
  with_reducible refine k1.mono ?_
  rintro e w1 ⟨rfl, rfl⟩
  clear k1
  go_wp2
  go_ret
  exact ⟨rfl, rfl⟩
set_option maxHeartbeats 16000000 in
theorem same_any {w : World} {bt br bf : Nat} {v : Value} {L : List LV} {fr : Int} {g : Bool} {n : Int} (rq : RQ w br bf v L fr g) (hl : L.length ≤ 268960770)
    (kA : Calls Tryz.prog 20 #[.pointer (some ⟨bt, 0, none⟩)] w fun e w' => (∃ v, e = .returned v ∧ OL encL 58 7 w' v L) ∧ Kp w w')
    (kT : ∀ u, Kp w u → Calls Tryz.prog 24 #[.pointer (some ⟨bt, 0, none⟩)] u fun e w' => e = .returned (.int .i64 n) ∧ Kp u w')
    (kR : ∀ u, Kp w u → Calls Tryz.prog 45 #[.pointer (some ⟨br, 0, none⟩)] u fun e w' => e = .returned (.int .i64 n) ∧ Kp u w') :
    Calls Tryz.prog 11 #[.pointer (some ⟨bt, 0, none⟩), .pointer (some ⟨br, 0, none⟩)] w fun e w' => e = .returned (.bool true) ∧ Kp w w' := by
  obtain ⟨na2, cap2, rfl, hc2⟩ := rq.slice
  obtain ⟨m, hm⟩ : ∃ m, m = L.length := ⟨_, rfl⟩
  have HM : Hid (m = L.length) := hm
  have HR : Hid (RQ w br bf (.slice na2 m cap2) L fr g) := by rw [hm]; exact rq
  have KA : Aside (Calls Tryz.prog 20 #[.pointer (some ⟨bt, 0, none⟩)] w fun e w' => ∃ na1 cap1, e = .returned (.slice na1 m cap1) ∧ m ≤ cap1 ∧ OL encL 58 7 w' (.slice na1 m cap1) L ∧ Kp w w') := by
    refine kA.mono ?_
    rintro e w' ⟨⟨v, rfl, ol⟩, k⟩
    obtain ⟨na1, cap1, rfl, hc1, _⟩ := OL.form ol
    exact ⟨na1, cap1, by rw [hm], by omega, by rw [hm]; exact ol, k⟩
  have kT : Aside (∀ u, Kp w u → Calls Tryz.prog 24 #[.pointer (some ⟨bt, 0, none⟩)] u fun e w' => e = .returned (.int .i64 n) ∧ Kp u w') := kT
  have kR : Aside (∀ u, Kp w u → Calls Tryz.prog 45 #[.pointer (some ⟨br, 0, none⟩)] u fun e w' => e = .returned (.int .i64 n) ∧ Kp u w') := kR
  have y0 : (m : Int) ≤ 268960770 := by omega
  have y2 : (m : Int) ≤ cap2 := by omega
  have d1 : (n != n) = false := bne_self_eq_false n
  have d2 : ((m : Int) != (m : Int)) = false := bne_self_eq_false _
  clear rq hl kA hc2 hm
  go_enter Tryz.func11, Tryz.ntmps11
  go_wp2_with fail
  with_reducible refine KA.out.mono ?_
  rintro e w1 ⟨na1, cap1, rfl, hc1, ol, k1⟩
  have c0 := (HR.out.kp k1).c0
  have y1 : (m : Int) ≤ cap1 := by omega
  have H1 : Hid (OL encL 58 7 w1 (.slice na1 m cap1) L ∧ Kp w w1) := ⟨ol, k1⟩
  have cT := kT.out _ k1
  clear KA ol k1 kT hc1
  go_wp2_with fail
  with_reducible refine cT.mono ?_
  rintro e w2 ⟨rfl, k2⟩
  have cR := kR.out _ (H1.out.2.trans k2)
  have H2 : Hid (OL encL 58 7 w2 (.slice na1 m cap1) L ∧ Kp w w2) := ⟨ol_kp H1.out.1 k2, H1.out.2.trans k2⟩
  clear cT k2 kR H1 c0
  go_wp2_with fail
  with_reducible refine cR.mono ?_
  rintro e w3 ⟨rfl, k3⟩
  have I0 : Hid (OL encL 58 7 w3 (.slice na1 m cap1) L ∧ Kp w w3) := ⟨ol_kp H2.out.1 k3, H2.out.2.trans k3⟩
  clear cR k3 H2
  go_wp2_with fail
  go_loopg [6] (m + 1) (fun gk v6 wr => ∃ (k : Nat), v6 = .int .i64 (k : Int) ∧ k ≤ m ∧ m + 1 - k ≤ gk ∧ Hid (OL encL 58 7 wr (.slice na1 m cap1) L ∧ Kp w wr))
  case atStart => exact ⟨0, rfl, by omega, by omega, I0⟩
  case round =>
    clear I0
    obtain ⟨k, rfl, hk, hgk, HI⟩ := hrel
    by_cases hlt : k < m
    · have z2 : (k : Int) < m := by omega
      obtain ⟨x, hx⟩ : ∃ x, L[k]? = some x := ⟨_, List.getElem?_eq_getElem (by have := HM.out; omega)⟩
      obtain ⟨g1, rfl, l1, _, q1⟩ := leaf_at HI.out.1 hx
      have rq := HR.out.kp HI.out.2
      obtain ⟨g2, rfl, l2, q2⟩ := rq.ol.at hx
      have c0 := rq.c0
      have HQ : Hid (∀ v, Kp wr v → OL encL 58 7 v (.slice (some ⟨g1, 0, none⟩) m cap1) L ∧ Kp w v) := fun v kv => ⟨ol_kp HI.out.1 kv, HI.out.2.trans kv⟩
      obtain ⟨xg, xx, xr, xq, xe, xf, xl⟩ := x
      have a0 := q1 0 _ rfl
      have a1 := q1 1 _ rfl
      have a2 := q1 2 _ rfl
      have a3 : wr.cell? ⟨g1, k * 7 + 2 + 1, none⟩ = some (.bool xq) := q1 3 _ rfl
      have a4 : wr.cell? ⟨g1, k * 7 + 2 + 2, none⟩ = some (.bool xe) := q1 4 _ rfl
      have a5 := q1 5 _ rfl
      have a6 := q1 6 _ rfl
      have b0 := q2 0 _ rfl
      have b1 := q2 1 _ rfl
      have b2 := q2 2 _ rfl
      have b3 : wr.cell? ⟨g2, k * 7 + 2 + 1, none⟩ = some (.bool xq) := q2 3 _ rfl
      have b4 : wr.cell? ⟨g2, k * 7 + 2 + 2, none⟩ = some (.bool xe) := q2 4 _ rfl
      have b5 := q2 5 _ rfl
      have b6 := q2 6 _ rfl
      simp only [Nat.add_zero] at a0 b0
      have hq : ∀ w : World, (Op.equalIn 10000 39 (.agg #[.bool xr, .bool xq, .bool xe]) (.agg #[.bool xr, .bool xq, .bool xe])).run Tryz.prog w = .ok true w := fun w => by rw [eq_permP]; simp [samP]
      have e0 : ((xg : Int) != (xg : Int)) = false := bne_self_eq_false _
      have e1 : ((xx : Int) != (xx : Int)) = false := bne_self_eq_false _
      have e2 : (xf != xf) = false := bne_self_eq_false _
      have e3 : ((xl : Int) != (xl : Int)) = false := bne_self_eq_false _
      clear HI hx q1 q2 l1 l2 rq
      go_wp2_with fail
      go_quiet (fail)
      have HR2 := HQ.out (wr.drewN nq) ((Kp.refl wr).drewN nq)
      clear a0 a1 a2 a3 a4 a5 a6 b0 b1 b2 b3 b4 b5 b6 hq HQ c0 e0 e1 e2 e3
      go_wp2_with fail
      go_roundg (m + 1 - (k + 1))
      case measure => omega
      case rel => exact ⟨k + 1, by go_num, by omega, by omega, HR2⟩
    · have ek : m = k := by omega
      subst ek
      have HK : Hid (Kp w wr) := HI.out.2
      clear HI hlt
      go_wp2_with fail
      go_ret
      exact ⟨rfl, HK.out⟩

end Go.Proofs.YtanlcmdnhhdhaaaGreatDoor

/- Steps that came in: lists of demesnelaw13.Op. -/
namespace Go.Proofs.YtanlcmdnhhdhaaaGreatDoor
open Go.RowKit Go.ChangeShapes Go.WideShapes Go.ChangeAt
set_option maxRecDepth 10000

/-- A step. -/
structure OpV where
  kd : Int
  fm : Int
  sf : Int
  pg : Nat
  r : Bool
  q : Bool
  x : Bool
  raw : Bool
def encO8 (o : OpV) : List Value := [.int .i64 o.kd, .int .i64 o.fm, .int .i64 o.sf, .int .u64 (o.pg : Int), .bool o.r, .bool o.q, .bool o.x, .bool o.raw]
/-- m steps lie in w at na. -/
def Steps (w : World) (na : Option Addr) (m : Nat) (V : Nat → OpV) : Prop := ∀ i, i < m → (∃ b o, na = some ⟨b, o, none⟩ ∧ b < w.heap.size ∧ ∀ j y, (encO8 (V i))[j]? = some y → w.cell? ⟨b, o + i * 8 + j, none⟩ = some y) ∧ (V i).pg < 18446744073709551616
theorem op8_cells {H : Type} {enc : TypeId × Value → H} {w : World} {base : Nat} {spare : Nat → Bool} {held : Bool} {fuel : Nat} {l : List Value} {y : DataW H × List MemPlace} (hl : l.length = 8)
    (hf : DataW.trod enc Tryz.prog w base spare held fuel 41 l = some y) : ∃ o : OpV, l = encO8 o ∧ o.pg < 18446744073709551616 := by
  obtain ⟨xs, n, _, _, _, hxl, hfs⟩ := DataW.trod_struct Tryz.underlying41 hf
  match l, hl with
  | [c0, c1, c2, c3, c4, c5, c6, c7], _ =>
    have hx : xs.length = 6 := hxl
    have g0 : DataW.trod enc Tryz.prog w base spare held n 3 ((([c0, c1, c2, c3, c4, c5, c6, c7] : List Value).drop 0).take (Tryz.prog.cellsOf 3)) = xs[0]? := hfs 0 _ rfl
    have g1 : DataW.trod enc Tryz.prog w base spare held n 3 ((([c0, c1, c2, c3, c4, c5, c6, c7] : List Value).drop 1).take (Tryz.prog.cellsOf 3)) = xs[1]? := hfs 1 _ rfl
    have g2 : DataW.trod enc Tryz.prog w base spare held n 3 ((([c0, c1, c2, c3, c4, c5, c6, c7] : List Value).drop 2).take (Tryz.prog.cellsOf 3)) = xs[2]? := hfs 2 _ rfl
    have g3 : DataW.trod enc Tryz.prog w base spare held n 37 ((([c0, c1, c2, c3, c4, c5, c6, c7] : List Value).drop 3).take (Tryz.prog.cellsOf 37)) = xs[3]? := hfs 3 _ rfl
    have g4 : DataW.trod enc Tryz.prog w base spare held n 39 ((([c0, c1, c2, c3, c4, c5, c6, c7] : List Value).drop 4).take (Tryz.prog.cellsOf 39)) = xs[4]? := hfs 4 _ rfl
    have g5 : DataW.trod enc Tryz.prog w base spare held n 4 ((([c0, c1, c2, c3, c4, c5, c6, c7] : List Value).drop 7).take (Tryz.prog.cellsOf 4)) = xs[5]? := hfs 5 _ rfl
    rw [show Tryz.prog.cellsOf 3 = 1 from by kernel_rfl, List.getElem?_eq_getElem (by omega)] at g0 g1 g2
    rw [show Tryz.prog.cellsOf 37 = 1 from by kernel_rfl, List.getElem?_eq_getElem (by omega)] at g3
    rw [show Tryz.prog.cellsOf 39 = 3 from by kernel_rfl, List.getElem?_eq_getElem (by omega)] at g4
    rw [show Tryz.prog.cellsOf 4 = 1 from by kernel_rfl, List.getElem?_eq_getElem (by omega)] at g5
    obtain ⟨kd, e0, _, _⟩ := DataW.trod_int Tryz.underlying3 g0
    obtain ⟨fm, e1, _, _⟩ := DataW.trod_int Tryz.underlying3 g1
    obtain ⟨sf, e2, _, _⟩ := DataW.trod_int Tryz.underlying3 g2
    obtain ⟨pg, e3, _, w3⟩ := DataW.trod_int Tryz.underlying37 g3
    obtain ⟨raw, e7, _⟩ := DataW.trod_bool Tryz.underlying4 g5
    obtain ⟨ys, m, _, _, _, hyl, hgs⟩ := DataW.trod_struct Tryz.underlying39 g4
    have hy : ys.length = 3 := hyl
    have p0 : DataW.trod enc Tryz.prog w base spare held m 4 ((([c4, c5, c6] : List Value).drop 0).take (Tryz.prog.cellsOf 4)) = ys[0]? := hgs 0 _ rfl
    have p1 : DataW.trod enc Tryz.prog w base spare held m 4 ((([c4, c5, c6] : List Value).drop 1).take (Tryz.prog.cellsOf 4)) = ys[1]? := hgs 1 _ rfl
    have p2 : DataW.trod enc Tryz.prog w base spare held m 4 ((([c4, c5, c6] : List Value).drop 2).take (Tryz.prog.cellsOf 4)) = ys[2]? := hgs 2 _ rfl
    rw [show Tryz.prog.cellsOf 4 = 1 from by kernel_rfl, List.getElem?_eq_getElem (by omega)] at p0 p1 p2
    obtain ⟨r, e4, _⟩ := DataW.trod_bool Tryz.underlying4 p0
    obtain ⟨q, e5, _⟩ := DataW.trod_bool Tryz.underlying4 p1
    obtain ⟨x, e6, _⟩ := DataW.trod_bool Tryz.underlying4 p2
    simp at e0 e1 e2 e3 e4 e5 e6 e7
    subst e0 e1 e2 e3 e4 e5 e6 e7
    have b := wf_word w3
    exact ⟨⟨kd, fm, sf, pg.toNat, r, q, x, raw⟩, by simp only [encO8, Int.toNat_of_nonneg b.1], by simp only; omega⟩
theorem open_steps {H : Type} {enc : TypeId × Value → H} {w : World} {base : Nat} {spare : Nat → Bool} {held : Bool} {fuel : Nat} {cs : List Value} {x : DataW H × List MemPlace}
    (h : DataW.trod enc Tryz.prog w base spare held fuel 22 cs = some x) :
    ∃ (na : Option Addr) (m mcap : Nat) (V : Nat → OpV), cs = [.slice na m mcap] ∧ m ≤ maxLen ∧ Steps w na m V := by
  rcases DataW.trod_slice Tryz.underlying22 h with ⟨h0, _⟩ | ⟨a, len, cap, elems, rest, n, _, rfl, rfl, hb, hl, hm, hlen, hel, hsp, hns⟩
  · exact ⟨none, 0, 0, fun _ => ⟨0, 0, 0, 0, false, false, false, false⟩, h0, Nat.zero_le _, fun i hi => by omega⟩
  · have each : ∀ i, i < len → ∃ e : OpV, (∀ j, j < 8 → w.cell? ((a.add (i * 8)).add j) = (encO8 e)[j]?) ∧ e.pg < 18446744073709551616 := fun i hi => by
      have h2 := hel i hi
      rw [List.getElem?_eq_getElem (by omega : i < elems.length), show Tryz.prog.cellsOf 41 = 8 from by kernel_rfl, Option.bind_eq_some_iff] at h2
      obtain ⟨cs', hcells, hy⟩ := h2
      obtain ⟨_, hclen, hcell⟩ := World.cells?_some hcells
      obtain ⟨e, rfl, hd⟩ := op8_cells hclen hy
      exact ⟨e, hcell, hd⟩
    refine ⟨some a, len, cap, fun i => if h : i < len then (each i h).choose else ⟨0, 0, 0, 0, false, false, false, false⟩, rfl, by omega, fun i hi => ?_⟩
    have hs := (each i hi).choose_spec
    simp only [dif_pos hi]
    generalize (each i hi).choose = e at hs
    obtain ⟨hc, hd⟩ := hs
    obtain ⟨b, o, sp⟩ := a
    have hspot : sp = none := by
      obtain ⟨d0, hc0, _⟩ := each 0 (by omega)
      have c0 := hc0 0 (by decide)
      rw [Nat.zero_mul] at c0
      exact World.cell?_spot c0
    subst hspot
    have c0 := hc 0 (by decide)
    have hlt : b < w.heap.size := by
      have := block_lt_of_cell c0
      simpa [add_at] using this
    refine ⟨⟨b, o, rfl, hlt, fun j y hy => ?_⟩, hd⟩
    have hj : j < 8 := by
      have := (List.getElem?_eq_some_iff.1 hy).1
      exact this
    have := hc j hj
    rw [add_at, add_at] at this
    exact this.trans hy

end Go.Proofs.YtanlcmdnhhdhaaaGreatDoor

/- TablePlays: two sides over one pool. -/
namespace Go.Proofs.YtanlcmdnhhdhaaaGreatDoor
open Go.RowKit
set_option maxRecDepth 10000

/-- Both sides, and the blocks Y that stay as they were in w0. -/
structure TW2 (W w0 w : World) (X Y : Nat → Prop) (p pm pool o i : Nat) (M : Nat → Nat → Nat) (C : Nat → Nat) (Za Zb : Nat → Bool) (ba bra : Nat) (va : Value) (bb brb : Nat) (vb : Value) (bf : Nat) (fr : Int) (pr : Bool) : Prop where
  fw : FW W X w p pm 2100 pool o M C
  hfr : fr = (cnt (fT pool C) pool : Int)
  a : SD W X w p pool i M C Za ba bra bf va fr
  b : pr = true → SD W X w p pool i M C Zb bb brb bf vb fr
  dj : DJ C Za Zb
  ap : pr = true → ∀ j, (j = bb ∨ j = brb ∨ vb.ownBlock = some j) → j ≠ ba ∧ j ≠ bra ∧ j ≠ bf ∧ va.ownBlock ≠ some j
  y : ∀ j, Y j → X j ∧ w.heap[j]? = w0.heap[j]? ∧ j ≠ ba ∧ j ≠ bra ∧ j ≠ bf ∧ va.ownBlock ≠ some j
  yb : pr = true → ∀ j, Y j → j ≠ bb ∧ j ≠ brb ∧ vb.ownBlock ≠ some j
theorem SD.kp {W w w' : World} {X : Nat → Prop} {p pool i : Nat} {M : Nat → Nat → Nat} {C : Nat → Nat} {Z : Nat → Bool} {bt br bf : Nat} {v : Value} {fr : Int} (h : SD W X w p pool i M C Z bt br bf v fr) (k : Kp w w') : SD W X w' p pool i M C Z bt br bf v fr := by
  refine ⟨h.xs, h.n1, ?_⟩
  rcases h.st with ⟨root, E, L, tx, tg, ne, rq, rl⟩ | ⟨tx, rq, hz⟩
  · exact .inl ⟨root, E, L, tx.kp k, tg, ne, rq.kp k, rl⟩
  · exact .inr ⟨tx.kp k, rq.kp k, hz⟩
/-- A side stays behind a step of the other one. -/
theorem SD.beside {W w w' : World} {X X' : Nat → Prop} {p pool i : Nat} {M M' : Nat → Nat → Nat} {C C' : Nat → Nat} {Za Z : Nat → Bool} {bt br bf : Nat} {v : Value} {fr fr' : Int} (h : SD W X w p pool i M C Z bt br bf v fr) (wd : ∀ j, X j → X' j) (keep : ∀ j, (j = bt ∨ j = br ∨ v.ownBlock = some j) → w'.heap[j]? = w.heap[j]?) (hf : w'.heap[bf]? = some (.cells #[.int .i64 fr'] 3 (0, 0))) (d : DJ C Za Z) (ot : Ot Za M C M' C') : SD W X' w' p pool (i + 1) M' C' (oZ C C' Z) bt br bf v fr' := by
  refine ⟨fun j hj => ⟨(h.xs j hj).1, wd j (h.xs j hj).2⟩, h.n1, ?_⟩
  rcases h.st with ⟨root, E, L, tx, tg, ne, rq, rl, hl⟩ | ⟨tx, rq, hz⟩
  · refine .inl ⟨root, E, L, (keep bt (.inl rfl)).trans tx, tg.other fun x h1 h2 => ot x (by rw [d x h1, h2]; rfl), ne, ⟨(keep br (.inr (.inl rfl))).trans rq.b, hf, OL.blk rq.ol fun g hg => keep g (.inr (.inr hg)), rq.nb, rq.ne, rq.ok⟩, rl, by omega⟩
  · refine .inr ⟨(keep bt (.inl rfl)).trans tx, ⟨(keep br (.inr (.inl rfl))).trans rq.b, hf, OL.blk rq.ol fun g hg => keep g (.inr (.inr hg)), rq.nb, rq.ne, rq.ok⟩, fun x hx hc => ?_⟩
    by_cases c : C x = 0
    · exact oZ_new c hc
    · rw [oZ_on c hc]
      exact hz x hx c
section
variable {W w0 w w' : World} {X Y : Nat → Prop} {p pm pool o i : Nat} {M : Nat → Nat → Nat} {C : Nat → Nat} {Za Zb : Nat → Bool} {ba bra : Nat} {va : Value} {bb brb : Nat} {vb : Value} {bf : Nat} {fr : Int} {pr : Bool}
theorem TW2.kp (h : TW2 W w0 w X Y p pm pool o i M C Za Zb ba bra va bb brb vb bf fr pr) (k : Kp w w') : TW2 W w0 w' X Y p pm pool o i M C Za Zb ba bra va bb brb vb bf fr pr :=
  ⟨h.fw.kps k, h.hfr, h.a.kp k, fun e => (h.b e).kp k, h.dj, h.ap, fun j hj => ⟨(h.y j hj).1, (k.block j (h.fw.xlt j (h.y j hj).1)).trans (h.y j hj).2.1, (h.y j hj).2.2⟩, h.yb⟩
theorem TW2.swap (h : TW2 W w0 w X Y p pm pool o i M C Za Zb ba bra va bb brb vb bf fr true) : TW2 W w0 w X Y p pm pool o i M C Zb Za bb brb vb ba bra va bf fr true := by
  obtain ⟨L, g, rq⟩ := h.a.rq
  have ap := h.ap rfl
  refine ⟨h.fw, h.hfr, h.b rfl, fun _ => h.a, h.dj.symm, fun _ j hj => ?_, fun j hj => ⟨(h.y j hj).1, (h.y j hj).2.1, (h.yb rfl j hj).1, (h.yb rfl j hj).2.1, (h.y j hj).2.2.2.2.1, (h.yb rfl j hj).2.2⟩, fun _ j hj => ⟨(h.y j hj).2.2.1, (h.y j hj).2.2.2.1, (h.y j hj).2.2.2.2.2⟩⟩
  refine ⟨fun c => ?_, fun c => ?_, fun c => ?_, fun c => ?_⟩
  · have q := ap j (.inl c)
    rcases hj with e | e | e
    · exact q.1 e
    · exact q.2.1 e
    · exact q.2.2.2 e
  · have q := ap j (.inr (.inl c))
    rcases hj with e | e | e
    · exact q.1 e
    · exact q.2.1 e
    · exact q.2.2.2 e
  · rcases hj with e | e | e
    · exact h.a.n1 bf (.inr (.inl rfl)) (c.symm.trans e)
    · exact rq.ne (e.symm.trans c)
    · exact (rq.nb j e).2 c
  · have q := ap j (.inr (.inr c))
    rcases hj with e | e | e
    · exact q.1 e
    · exact q.2.1 e
    · exact q.2.2.2 e
/-- A step of the first one. -/
theorem TW2.step (h : TW2 W w0 w X Y p pm pool o i M C Za Zb ba bra va bb brb vb bf fr pr) (k : RES W w X p pm pool o i M C Za ba bra bf va w') : ∃ X' M' C' Za' Zb' va' fr', TW2 W w0 w' X' Y p pm pool (o + 1000) (i + 1) M' C' Za' Zb' ba bra va' bb brb vb bf fr' pr := by
  obtain ⟨X', M', C', Z', v', fr', fw, hfr, sd, sy, ot, dj⟩ := k
  obtain ⟨L, g, rq⟩ := sd.rq
  have own : ∀ j, X j → va.ownBlock ≠ some j → v'.ownBlock ≠ some j := fun j hx n c => by
    rcases sy.own j c with d | d
    · exact n d
    · have := sy.lim j hx; omega
  refine ⟨X', M', C', Z', oZ C C' Zb, v', fr', fw, hfr, sd, fun e => ?_, dj Zb h.dj, fun e j hj => ?_, fun j hj => ?_, h.yb⟩
  · refine (h.b e).beside sy.wide (fun j hj => ?_) rq.f h.dj ot
    have q := h.ap e j hj
    have x := (h.b e).xs j (hj.elim .inl fun c => .inr (c.elim .inl fun c => .inr (.inr c)))
    exact sy.keep j x.2 q.1 q.2.1 q.2.2.1 q.2.2.2
  · have q := h.ap e j hj
    have x := (h.b e).xs j (hj.elim .inl fun c => .inr (c.elim .inl fun c => .inr (.inr c)))
    exact ⟨q.1, q.2.1, q.2.2.1, own j x.2 q.2.2.2⟩
  · obtain ⟨y1, y2, y3, y4, y5, y6⟩ := h.y j hj
    exact ⟨sy.wide j y1, (sy.keep j y1 y3 y4 y5 y6).trans y2, y3, y4, y5, own j y1 y6⟩
/-- Both tell the same leaves. -/
theorem TW2.same (h : TW2 W w0 w X Y p pm pool o i M C Za Zb ba bra va bb brb vb bf fr pr) (hi : i ≤ 100) :
    Calls Tryz.prog 11 #[.pointer (some ⟨ba, 0, none⟩), .pointer (some ⟨bra, 0, none⟩)] w fun e w' => e = .returned (.bool true) ∧ Kp w w' := by
  rcases h.a.st with ⟨root, E, L, tx, tg, ne, rq, rl, hl⟩ | ⟨tx, rq, hz⟩
  · have xb := h.a.xs ba (.inl rfl)
    have ts : TS W X w ba p pm 2100 pool o M C Za root E := ⟨h.fw, tx, xb.2, xb.1, tg⟩
    have own := rl.own tg ne
    refine same_any (n := (cnt (ownC C Za) pool : Int)) rq (by omega) ?_ (fun u k => tcount_any (ts.kps k)) (fun u k => ?_)
    · rw [rl.eq tg]
      exact (leaves_any ts).mono fun e w' ⟨e1, e2, _⟩ => ⟨e1, e2⟩
    · have := rtabs_any (rq.kp k) (by omega)
      rw [if_neg (by decide), show (1 : Int) + ((tabL L : Nat) : Int) = ((cnt (ownC C Za) pool : Nat) : Int) by omega] at this
      exact this
  · refine same_any (n := 0) rq (by simp) ?_ (fun u k => (tcount_gone (tx.kp k)).mono fun e w' ⟨e1, e2⟩ => ⟨e1, by rw [e2]; exact Kp.refl _⟩) (fun u k => ?_)
    · exact (leaves_gone tx).mono fun e w' ⟨e1, e2⟩ => ⟨⟨_, e1, OL.nil _ _⟩, e2⟩
    · have := rtabs_any (rq.kp k) (by simp)
      rw [if_pos rfl] at this
      exact this
end
/-- Between the steps. -/
def TPS (W w0 : World) (Y : Nat → Prop) (p pm pool ba bra bb brb bf : Nat) (pr : Bool) (i : Nat) (w : World) : Prop := ∃ X M C Za Zb va vb fr, TW2 W w0 w X Y p pm pool (i * 1000) i M C Za Zb ba bra va bb brb vb bf fr pr
section
variable {W w0 w w' : World} {Y : Nat → Prop} {p pm pool i : Nat} {ba bra bb brb bf : Nat} {pr : Bool}
theorem TPS.kp (h : TPS W w0 Y p pm pool ba bra bb brb bf pr i w) (k : Kp w w') : TPS W w0 Y p pm pool ba bra bb brb bf pr i w' := by
  obtain ⟨X, M, C, Za, Zb, va, vb, fr, h⟩ := h
  exact ⟨X, M, C, Za, Zb, va, vb, fr, h.kp k⟩
theorem TPS.k (h : TPS W w0 Y p pm pool ba bra bb brb bf pr i w) : Kp W w := by
  obtain ⟨X, M, C, Za, Zb, va, vb, fr, h⟩ := h
  exact h.fw.kp
theorem TPS.y (h : TPS W w0 Y p pm pool ba bra bb brb bf pr i w) {j : Nat} (hj : Y j) : w.heap[j]? = w0.heap[j]? := by
  obtain ⟨X, M, C, Za, Zb, va, vb, fr, h⟩ := h
  exact (h.y j hj).2.1
theorem TPS.swap (h : TPS W w0 Y p pm pool ba bra bb brb bf true i w) : TPS W w0 Y p pm pool bb brb ba bra bf true i w := by
  obtain ⟨X, M, C, Za, Zb, va, vb, fr, h⟩ := h
  exact ⟨X, M, C, Zb, Za, vb, va, fr, h.swap⟩
theorem TPS.mono {j : Nat} (h : TPS W w0 Y p pm pool ba bra bb brb bf pr i w) (hj : i ≤ j) : TPS W w0 Y p pm pool ba bra bb brb bf pr j w := by
  obtain ⟨X, M, C, Za, Zb, va, vb, fr, h⟩ := h
  have up : ∀ {Z bt br v}, SD W X w p pool i M C Z bt br bf v fr → SD W X w p pool j M C Z bt br bf v fr := fun {Z bt br v} s => by
    refine ⟨s.xs, s.n1, ?_⟩
    rcases s.st with ⟨root, E, L, tx, tg, ne, rq, rl, hl⟩ | c
    · exact .inl ⟨root, E, L, tx, tg, ne, rq, rl, by have : 511 * i ≤ 511 * j := Nat.mul_le_mul_left _ hj; omega⟩
    · exact .inr c
  exact ⟨X, M, C, Za, Zb, va, vb, fr, h.fw.le (by omega), h.hfr, up h.a, fun e => up (h.b e), h.dj, h.ap, h.y, h.yb⟩
theorem TPS.step (h : TPS W w0 Y p pm pool ba bra bb brb bf pr i w) (hi : i ≤ 100) (hpl : pool ≤ 64) (q : OpV) (hpg : q.pg < 18446744073709551616) :
    Calls Tryz.prog 9 #[.pointer (some ⟨ba, 0, none⟩), .pointer (some ⟨bra, 0, none⟩), .agg #[.int .i64 q.kd, .int .i64 q.fm, .int .i64 q.sf, .int .u64 (q.pg : Int), .bool q.r, .bool q.q, .bool q.x, .bool q.raw]] w fun e w' => e = .returned (.bool true) ∧ TPS W w0 Y p pm pool ba bra bb brb bf pr (i + 1) w' := by
  obtain ⟨X, M, C, Za, Zb, va, vb, fr, h⟩ := h
  obtain ⟨t, m, k1, k2, k3, k4, k5⟩ := place_of q.kd 11 (by omega)
  rw [show ((11 : Nat) : Int) = 11 from rfl] at k1 k2 k3 k4
  refine (one_step h.fw h.hfr h.a hi (by omega) hpl q.kd q.fm q.sf q.pg q.r q.q q.x q.raw hpg m t k1 k2 k3 k4 k5).mono ?_
  rintro e u ⟨e1, k⟩
  obtain ⟨X', M', C', Za', Zb', va', fr', h'⟩ := h.step k
  exact ⟨e1, X', M', C', Za', Zb', va', vb, fr', by rw [show (i + 1) * 1000 = i * 1000 + 1000 by omega]; exact h'⟩
theorem TPS.same (h : TPS W w0 Y p pm pool ba bra bb brb bf pr i w) (hi : i ≤ 100) :
    Calls Tryz.prog 11 #[.pointer (some ⟨ba, 0, none⟩), .pointer (some ⟨bra, 0, none⟩)] w fun e w' => e = .returned (.bool true) ∧ TPS W w0 Y p pm pool ba bra bb brb bf pr i w' := by
  have h0 := h
  obtain ⟨X, M, C, Za, Zb, va, vb, fr, h⟩ := h
  exact (h.same hi).mono fun e w' ⟨e1, k⟩ => ⟨e1, h0.kp k⟩
theorem TPS.free (h : TPS W w0 Y p pm pool ba bra bb brb bf pr i w) : ∃ f1 f2 : Nat, w.heap[bf]? = some (.cells #[.int .i64 (f2 : Int)] 3 (0, 0)) ∧ Calls Tryz.prog 10 #[.pointer (some ⟨p, 0, none⟩)] w fun e w' => e = .returned (.tuple #[.int .i64 (f1 : Int), .int .i64 (f2 : Int)]) ∧ Kp w w' := by
  obtain ⟨X, M, C, Za, Zb, va, vb, fr, h⟩ := h
  obtain ⟨L, g, rq⟩ := h.a.rq
  exact ⟨_, _, by rw [← h.hfr]; exact rq.f, (wfree_any h.fw).mono fun e w' ⟨e1, e2⟩ => ⟨e1, e2.kp⟩⟩
end

end Go.Proofs.YtanlcmdnhhdhaaaGreatDoor
