/- Joined: R69, S5, R6F. -/
import Derived.Test.YtanlcmdnhhdhaaaGreatDoorR6B
import Derived.Test.YtanlcmdnhhdhaaaGreatDoorJ04
import Derived.Test.YtanlcmdnhhdhaaaGreatDoorJ37
import Derived.ProofKit
import Derived.OpenShut
import Derived.WalkKit
import Derived.Deep.Fields
import Derived.Test.YtanlcmdnhhdhaaaGreatDoorJ25
/- demesnelaw13.step. (Laid by gen_r69.py.) -/
namespace Go.Proofs.YtanlcmdnhhdhaaaGreatDoor
open Go.RowKit
set_option maxRecDepth 10000

set_option maxHeartbeats 16000000 in
theorem step_any {W w : World} {X : Nat → Prop} {v : Value} {bt p pm pool o : Nat} {M : Nat → Nat → Nat} {C : Nat → Nat} {Z : Nat → Bool} {root br bf : Nat} {E : Nat → Nat → DV} {L : List LV} {fr : Int} (h : BJ W X w bt p pm pool o M C Z root E br bf v L fr false)
    (kd fm sf : Int) (pg : Nat) (r q x raw : Bool) (hpg : pg < 18446744073709551616) (m : Nat) (t : Int) (k1 : kd.tmod 11 = t) (k2 : -11 < t) (k3 : t < 11) (k4 : (t + 11).tmod 11 = (m : Int)) (k5 : m < 11) (k6 : m ≠ 10)
    (hl : L.length ≤ 800000) (hf : -100000000 ≤ fr ∧ fr ≤ 100000000) (ho : o < 100000000000000000) (hX : ∀ i, X i → i < w.heap.size) :
    Calls Tryz.prog 9 #[.pointer (some ⟨bt, 0, none⟩), .pointer (some ⟨br, 0, none⟩), .agg #[.int .i64 kd, .int .i64 fm, .int .i64 sf, .int .u64 (pg : Int), .bool r, .bool q, .bool x, .bool raw]] w fun e w' => ∃ z, e = .returned (.bool z) ∧ SZ W w X v bt p pm pool (o + 1000) M C Z root br bf E L fr z w' := by
  have HH : Hid (BJ W X w bt p pm pool o M C Z root E br bf v L fr false ∧ L.length ≤ 800000 ∧ (-100000000 ≤ fr ∧ fr ≤ 100000000) ∧ o < 100000000000000000 ∧ ∀ i, X i → i < w.heap.size) := ⟨h, hl, hf, ho, hX⟩
  have HP : Hid (pg < 18446744073709551616) := hpg
  obtain ⟨p1, hp1, lp1⟩ : ∃ p1, p1 = pgT pg ∧ p1 < 18446744073709551616 := ⟨_, rfl, by have := pgT_lt pg; omega⟩
  have HQ : Hid (p1 < 18446744073709551616) := lp1
  obtain ⟨fa, ea, fa0, fa1⟩ : ∃ fa : Int, bits .and .i64 fm 1023 = fa ∧ 0 ≤ fa ∧ fa < 1024 := ⟨_, mask10 _, Int.emod_nonneg _ (by decide), Int.emod_lt_of_pos _ (by decide)⟩
  obtain ⟨w1, hw1⟩ : ∃ w1, w1 = w.alloc (.cells #[.int .i64 kd, .int .i64 fm, .int .i64 sf, .int .u64 (pg : Int), .bool r, .bool q, .bool x, .bool raw] 41) := ⟨_, rfl⟩
  obtain ⟨b5, hb5⟩ : ∃ b5, b5 = w.heap.size := ⟨_, rfl⟩
  have HF : Hid (Kp w w1 ∧ OPX w1 b5 kd fm sf (pg : Int) r q x raw) := ⟨by rw [hw1]; exact (Kp.refl w).alloc _, by rw [hw1, hb5]; exact heap_alloc_new w _⟩
  have kP : Aside (∀ P : KeptBy w1, Calls Tryz.prog 13 #[.int .u64 (pg : Int)] P.v fun e w' => e = .returned (.int .u64 (p1 : Int)) ∧ Kp P.v w') := fun P => by rw [hp1]; exact page_tab pg P.v
  clear h hl hf ho hX hpg hp1 lp1
  go_enter Tryz.func9, Tryz.ntmps9
  go_wp2_with fail
  rw [← hw1, ← hb5]
  have HB : Hid (w.heap.size ≤ b5) := (by omega : w.heap.size ≤ b5)
  clear hw1 hb5
  have kb : Nonempty (KeptBy w1) := KeptBy.some
  have g3 : ∀ P : KeptBy w1, P.v.cell? ⟨b5, 3, none⟩ = some (.int .u64 (pg : Int)) := fun P => (HF.out.2.kp P.k).cells.2.2.2.1
  have g1 : ∀ P : KeptBy w1, P.v.cell? ⟨b5, 1, none⟩ = some (.int .i64 fm) := fun P => (HF.out.2.kp P.k).cells.2.1
  refine wp_region_kept mixed (by kernel_rfl) ?_
  repeat (go_big_quiet_step (first | exact rfl | (go_at_call 13; with_reducible refine Calls.kept_of (kP.out _))))
  refine wpQuiet_nil ?_
  intro _ hw'
  obtain ⟨⟨wq, kq⟩, hw''⟩ := hw'
  subst hw''
  have HG := HF.out.2.kp kq
  have HF2 : Hid (Kp w _ ∧ OPX _ b5 kd fm sf (pg : Int) r q x raw) := ⟨HF.out.1.trans kq, HG⟩
  have g7 := HG.cells.2.2.2.2.2.2.2
  clear kb g3 g1 kP HF kq HG
  generalize fa + 100 = f1 at *
  go_upto_if 31 with fail
  go_cut [7, 8] (fun v7 v8 wx => ∃ (p2 : Nat) (f2 : Int), v7 = .int .u64 (p2 : Int) ∧ v8 = .int .i64 f2 ∧ Hid (p2 < 18446744073709551616 ∧ Kp w wx ∧ OPX wx b5 kd fm sf (pg : Int) r q x raw))
  case first =>
    cases raw
    · go_wp2_with fail
      go_meet
      case rel => exact ⟨p1, f1, rfl, rfl, HQ.out, HF2.out⟩
    · have q3 := HF2.out.2.cells.2.2.2.1
      have q1 := HF2.out.2.cells.2.1
      go_wp2_with fail
      go_quiet (fail)
      go_wp2_with fail
      go_meet
      case rel => exact ⟨pg, fm, rfl, rfl, HP.out, HF2.out.1.drewN _, HF2.out.2.kp ((Kp.refl _).drewN _)⟩
  case rest =>
    obtain ⟨p2, f2, rfl, rfl, H2⟩ := hcut
    have c := H2.out.2.2.cells
    have c4 := c.2.2.2.2.1
    have c5 := c.2.2.2.2.2.1
    have c6 := c.2.2.2.2.2.2.1
    have c2 := c.2.2.1
    clear c HF2 HQ ea fa0 fa1 g7
    have kA : Kp wc (wc.alloc (.cells #[.bool r, .bool q, .bool x] 39)) := (Kp.refl wc).alloc _
    have d2 := (H2.out.2.2.kp kA).cells.2.2.1
    have H3 : Hid (Kp w (wc.alloc (.cells #[.bool r, .bool q, .bool x] 39)) ∧ OPX (wc.alloc (.cells #[.bool r, .bool q, .bool x] 39)) b5 kd fm sf (pg : Int) r q x raw ∧ PX (wc.alloc (.cells #[.bool r, .bool q, .bool x] 39)) wc.heap.size r q x ∧ w.heap.size ≤ wc.heap.size ∧ b5 < wc.heap.size) := ⟨H2.out.2.1.trans kA, H2.out.2.2.kp kA, PX.made wc r q x, H2.out.2.1.size, H2.out.2.2.lt⟩
    have H2p : Hid (p2 < 18446744073709551616) := H2.out.1
    obtain ⟨z, hz⟩ : ∃ z, bits .and .i64 sf 16 = z := ⟨_, rfl⟩
    clear kA H2
    go_upto_if 41 with fail
    generalize wc.alloc (.cells #[.bool r, .bool q, .bool x] 39) = w3 at *
    generalize wc.heap.size = b9 at *
    clear d2 c2 c4 c5 c6
    go_cut [] (fun wx => ∃ R Q Y : Bool, Hid (Kp w wx ∧ OPX wx b5 kd fm sf (pg : Int) r q x raw ∧ PX wx b9 R Q Y))
    case first =>
      by_cases ez : z = 0
      · subst ez
        have e0 := H3.out.2.2.1.c0
        have e1 := H3.out.2.2.1.c1
        have e2 := H3.out.2.2.1.c2
        go_wp2_with fail
        with_reducible refine (right_any r q x _).mono ?_
        rintro e w4 ⟨rfl, k4⟩
        have P4 := H3.out.2.2.1.kp k4
        have e0 := P4.c0
        have e1 := P4.c1
        have e2 := P4.c2
        have f0 := P4.fz 0
        have f1 := P4.fz 1
        have f2 := P4.fz 2
        have H4 : Hid (Kp w (putP w4 b9 r (q && r) x) ∧ OPX (putP w4 b9 r (q && r) x) b5 kd fm sf (pg : Int) r q x raw ∧ PX (putP w4 b9 r (q && r) x) b9 r (q && r) x) := by
          exact ⟨(H3.out.1.trans k4).putP H3.out.2.2.2.1, (H3.out.2.1.kp k4).putP (by have := H3.out.2.2.2.2; omega) _ _ _, P4.put _ _ _⟩
        clear P4 k4
        go_wp2_with fail
        go_meet
        case rel => exact ⟨r, (q && r), x, H4⟩
      · have ez2 : (z == 0) = false := beq_false_of_ne ez
        go_wp2_with fail
        go_meet
        case rel => exact ⟨r, q, x, H3.out.1, H3.out.2.1, H3.out.2.2.1⟩
    case rest =>
      obtain ⟨R, Q, Y, H4⟩ := hcut
      have HB9 : Hid (w.heap.size ≤ b9) := H3.out.2.2.2.1
      clear H3 hz
      have c2 := H4.out.2.1.cells.2.2.1
      have c7 := H4.out.2.1.cells.2.2.2.2.2.2.2
      go_upto_if 48 with fail
      go_cut [10] (fun v10 wx => ∃ s : Int, v10 = .int .i64 s ∧ Hid (Kp w wx ∧ OPX wx b5 kd fm sf (pg : Int) r q x raw ∧ PX wx b9 R Q Y))
      case first =>
        obtain ⟨z1, hz1⟩ : ∃ z, bits .and .i64 sf 1 = z := ⟨_, rfl⟩
        cases raw
        · go_wp2_with fail
          go_meet
          case rel => exact ⟨z1, rfl, H4⟩
        · go_wp2_with fail
          go_meet
          case rel => exact ⟨sf, rfl, H4⟩
      case rest =>
        obtain ⟨s, rfl, H5⟩ := hcut
        clear H4 c2 c7
        have c0 := H5.out.2.1.cells.1
        have c7 := H5.out.2.1.cells.2.2.2.2.2.2.2
        rename_i hK
        refine hK _ _ ?_
        clear hK
        go_step
        go_cut [7, 8] (fun v7 v8 wx => ∃ (p3 : Nat) (f3 : Int), v7 = .int .u64 (p3 : Int) ∧ v8 = .int .i64 f3 ∧ Hid (p3 < 18446744073709551616 ∧ Kp w wx ∧ OPX wx b5 kd fm sf (pg : Int) r q x raw ∧ PX wx b9 R Q Y))
        case first =>
          by_cases h3 : m = 3
          · subst h3
            cases raw
            · obtain ⟨p3, ep3, lp3⟩ : ∃ p3 : Nat, bits .andNot .u64 (p2 : Int) 511 = (p3 : Int) ∧ p3 < 18446744073709551616 := ⟨_, andn_511 p2 H2p.out, by have := H2p.out; omega⟩
              obtain ⟨f3, ef3⟩ : ∃ f3, bits .andNot .i64 f2 511 = f3 := ⟨_, rfl⟩
              go_wp2_with fail
              go_meet
              case rel => exact ⟨p3, f3, rfl, rfl, lp3, H5.out⟩
            · go_wp2_with fail
              go_meet
              case rel => exact ⟨p2, f2, rfl, rfl, H2p.out, H5.out⟩
          · have e3 : ((m : Int) == 3) = false := by rw [beq_eq_false_iff_ne]; omega
            go_wp2_with fail
            go_meet
            case rel => exact ⟨p2, f2, rfl, rfl, H2p.out, H5.out⟩
        case rest =>
          obtain ⟨p3, f3, rfl, rfl, H6⟩ := hcut
          clear H5 c0 c7 H2p
          rename_i hK
          exact hK _ _ (step_switch HH.out H6.out.1 H6.out.2.1 HB9.out H6.out.2.2.1 H6.out.2.2.2 k1 k2 k3 k4 k5 k6)

end Go.Proofs.YtanlcmdnhhdhaaaGreatDoor

/- Steps that came in: lists of demesnelaw13.Op. -/
namespace Go.Proofs.YtanlcmdnhhdhaaaGreatDoor
open Go.RowKit Go.ChangeShapes Go.WideShapes Go.ChangeAt
set_option maxRecDepth 10000

/-- A step. -/
structure OpV where
  kd : Int
  fm : Int
  sf : Int
  pg : Nat
  r : Bool
  q : Bool
  x : Bool
  raw : Bool
def encO8 (o : OpV) : List Value := [.int .i64 o.kd, .int .i64 o.fm, .int .i64 o.sf, .int .u64 (o.pg : Int), .bool o.r, .bool o.q, .bool o.x, .bool o.raw]
/-- m steps lie in w at na. -/
def Steps (w : World) (na : Option Addr) (m : Nat) (V : Nat → OpV) : Prop := ∀ i, i < m → (∃ b o, na = some ⟨b, o, none⟩ ∧ b < w.heap.size ∧ ∀ j y, (encO8 (V i))[j]? = some y → w.cell? ⟨b, o + i * 8 + j, none⟩ = some y) ∧ (V i).pg < 18446744073709551616
theorem op8_cells {H : Type} {enc : TypeId × Value → H} {w : World} {base : Nat} {spare : Nat → Bool} {held : Bool} {fuel : Nat} {l : List Value} {y : DataW H × List MemPlace} (hl : l.length = 8)
    (hf : DataW.trod enc Tryz.prog w base spare held fuel 41 l = some y) : ∃ o : OpV, l = encO8 o ∧ o.pg < 18446744073709551616 := by
  obtain ⟨xs, n, _, _, _, hxl, hfs⟩ := DataW.trod_struct Tryz.underlying41 hf
  match l, hl with
  | [c0, c1, c2, c3, c4, c5, c6, c7], _ =>
    have hx : xs.length = 6 := hxl
    have g0 : DataW.trod enc Tryz.prog w base spare held n 3 ((([c0, c1, c2, c3, c4, c5, c6, c7] : List Value).drop 0).take (Tryz.prog.cellsOf 3)) = xs[0]? := hfs 0 _ rfl
    have g1 : DataW.trod enc Tryz.prog w base spare held n 3 ((([c0, c1, c2, c3, c4, c5, c6, c7] : List Value).drop 1).take (Tryz.prog.cellsOf 3)) = xs[1]? := hfs 1 _ rfl
    have g2 : DataW.trod enc Tryz.prog w base spare held n 3 ((([c0, c1, c2, c3, c4, c5, c6, c7] : List Value).drop 2).take (Tryz.prog.cellsOf 3)) = xs[2]? := hfs 2 _ rfl
    have g3 : DataW.trod enc Tryz.prog w base spare held n 37 ((([c0, c1, c2, c3, c4, c5, c6, c7] : List Value).drop 3).take (Tryz.prog.cellsOf 37)) = xs[3]? := hfs 3 _ rfl
    have g4 : DataW.trod enc Tryz.prog w base spare held n 39 ((([c0, c1, c2, c3, c4, c5, c6, c7] : List Value).drop 4).take (Tryz.prog.cellsOf 39)) = xs[4]? := hfs 4 _ rfl
    have g5 : DataW.trod enc Tryz.prog w base spare held n 4 ((([c0, c1, c2, c3, c4, c5, c6, c7] : List Value).drop 7).take (Tryz.prog.cellsOf 4)) = xs[5]? := hfs 5 _ rfl
    rw [show Tryz.prog.cellsOf 3 = 1 from by kernel_rfl, List.getElem?_eq_getElem (by omega)] at g0 g1 g2
    rw [show Tryz.prog.cellsOf 37 = 1 from by kernel_rfl, List.getElem?_eq_getElem (by omega)] at g3
    rw [show Tryz.prog.cellsOf 39 = 3 from by kernel_rfl, List.getElem?_eq_getElem (by omega)] at g4
    rw [show Tryz.prog.cellsOf 4 = 1 from by kernel_rfl, List.getElem?_eq_getElem (by omega)] at g5
    obtain ⟨kd, e0, _, _⟩ := DataW.trod_int Tryz.underlying3 g0
    obtain ⟨fm, e1, _, _⟩ := DataW.trod_int Tryz.underlying3 g1
    obtain ⟨sf, e2, _, _⟩ := DataW.trod_int Tryz.underlying3 g2
    obtain ⟨pg, e3, _, w3⟩ := DataW.trod_int Tryz.underlying37 g3
    obtain ⟨raw, e7, _⟩ := DataW.trod_bool Tryz.underlying4 g5
    obtain ⟨ys, m, _, _, _, hyl, hgs⟩ := DataW.trod_struct Tryz.underlying39 g4
    have hy : ys.length = 3 := hyl
    have p0 : DataW.trod enc Tryz.prog w base spare held m 4 ((([c4, c5, c6] : List Value).drop 0).take (Tryz.prog.cellsOf 4)) = ys[0]? := hgs 0 _ rfl
    have p1 : DataW.trod enc Tryz.prog w base spare held m 4 ((([c4, c5, c6] : List Value).drop 1).take (Tryz.prog.cellsOf 4)) = ys[1]? := hgs 1 _ rfl
    have p2 : DataW.trod enc Tryz.prog w base spare held m 4 ((([c4, c5, c6] : List Value).drop 2).take (Tryz.prog.cellsOf 4)) = ys[2]? := hgs 2 _ rfl
    rw [show Tryz.prog.cellsOf 4 = 1 from by kernel_rfl, List.getElem?_eq_getElem (by omega)] at p0 p1 p2
    obtain ⟨r, e4, _⟩ := DataW.trod_bool Tryz.underlying4 p0
    obtain ⟨q, e5, _⟩ := DataW.trod_bool Tryz.underlying4 p1
    obtain ⟨x, e6, _⟩ := DataW.trod_bool Tryz.underlying4 p2
    simp at e0 e1 e2 e3 e4 e5 e6 e7
    subst e0 e1 e2 e3 e4 e5 e6 e7
    have b := wf_word w3
    exact ⟨⟨kd, fm, sf, pg.toNat, r, q, x, raw⟩, by simp only [encO8, Int.toNat_of_nonneg b.1], by simp only; omega⟩
theorem open_steps {H : Type} {enc : TypeId × Value → H} {w : World} {base : Nat} {spare : Nat → Bool} {held : Bool} {fuel : Nat} {cs : List Value} {x : DataW H × List MemPlace}
    (h : DataW.trod enc Tryz.prog w base spare held fuel 22 cs = some x) :
    ∃ (na : Option Addr) (m mcap : Nat) (V : Nat → OpV), cs = [.slice na m mcap] ∧ m ≤ maxLen ∧ Steps w na m V := by
  rcases DataW.trod_slice Tryz.underlying22 h with ⟨h0, _⟩ | ⟨a, len, cap, elems, rest, n, _, rfl, rfl, hb, hl, hm, hlen, hel, hsp, hns⟩
  · exact ⟨none, 0, 0, fun _ => ⟨0, 0, 0, 0, false, false, false, false⟩, h0, Nat.zero_le _, fun i hi => by omega⟩
  · have each : ∀ i, i < len → ∃ e : OpV, (∀ j, j < 8 → w.cell? ((a.add (i * 8)).add j) = (encO8 e)[j]?) ∧ e.pg < 18446744073709551616 := fun i hi => by
      have h2 := hel i hi
      rw [List.getElem?_eq_getElem (by omega : i < elems.length), show Tryz.prog.cellsOf 41 = 8 from by kernel_rfl, Option.bind_eq_some_iff] at h2
      obtain ⟨cs', hcells, hy⟩ := h2
      obtain ⟨_, hclen, hcell⟩ := World.cells?_some hcells
      obtain ⟨e, rfl, hd⟩ := op8_cells hclen hy
      exact ⟨e, hcell, hd⟩
    refine ⟨some a, len, cap, fun i => if h : i < len then (each i h).choose else ⟨0, 0, 0, 0, false, false, false, false⟩, rfl, by omega, fun i hi => ?_⟩
    have hs := (each i hi).choose_spec
    simp only [dif_pos hi]
    generalize (each i hi).choose = e at hs
    obtain ⟨hc, hd⟩ := hs
    obtain ⟨b, o, sp⟩ := a
    have hspot : sp = none := by
      obtain ⟨d0, hc0, _⟩ := each 0 (by omega)
      have c0 := hc0 0 (by decide)
      rw [Nat.zero_mul] at c0
      exact World.cell?_spot c0
    subst hspot
    have c0 := hc 0 (by decide)
    have hlt : b < w.heap.size := by
      have := block_lt_of_cell c0
      simpa [add_at] using this
    refine ⟨⟨b, o, rfl, hlt, fun j y hy => ?_⟩, hd⟩
    have hj : j < 8 := by
      have := (List.getElem?_eq_some_iff.1 hy).1
      exact this
    have := hc j hj
    rw [add_at, add_at] at this
    exact this.trans hy

end Go.Proofs.YtanlcmdnhhdhaaaGreatDoor

/- TableApart: two tables over one pool, the document's beside the first one. -/
namespace Go.Proofs.YtanlcmdnhhdhaaaGreatDoor
open Go.RowKit
set_option maxRecDepth 10000

set_option maxHeartbeats 4000000 in
/-- Leaves: the list is a new one. -/
theorem leaves_new {W w : World} {X : Nat → Prop} {bt p pm N pool o : Nat} {M : Nat → Nat → Nat} {C : Nat → Nat} {Z : Nat → Bool} {root : Nat} {E : Nat → Nat → DV} (T : TS W X w bt p pm N pool o M C Z root E) :
    Calls Tryz.prog 20 #[.pointer (some ⟨bt, 0, none⟩)] w fun e w' => (∃ v, e = .returned v ∧ OL encL 58 7 w' v (lvsA E) ∧ ∀ b, v.ownBlock = some b → w.heap.size ≤ b) ∧ Kp w w' ∧ (lvsA E).length ≤ 268960770 := by
  have I0 : IL7 w.heap.size w [] (fun b => b = w.heap.size) (w.alloc (.cells #[.slice none 0 0] 70)) := ⟨⟨.slice none 0 0, heap_alloc_new w _, OL.nil _ _, (fun b hb => .inl hb), (fun b hb => by cases hb)⟩, rfl, Nat.le_refl _, (Kp.refl w).alloc _⟩
  have k1 := each_any T (visitL w.heap.size w) [] _ _ I0 (by simp)
  rw [List.nil_append] at k1
  unfold lvsA
  generalize trv E visL deepA 4 0 0 = LL at *
  have KE : Aside (Calls Tryz.prog 58 #[.pointer (some ⟨bt, 0, none⟩), .func (.func 59) #[] #[.pointer (some ⟨w.heap.size, 0, none⟩)]] (w.alloc (.cells #[.slice none 0 0] 70)) fun e w' => e = .returned (.tuple #[]) ∧ ∃ na n cap, w'.cell? ⟨w.heap.size, 0, none⟩ = some (.slice na n cap) ∧ Hid (OL encL 58 7 w' (.slice na n cap) (LL) ∧ (∀ b, (Value.slice na n cap).ownBlock = some b → w.heap.size ≤ b) ∧ Kp w w' ∧ (LL).length ≤ 268960770)) := k1.mono fun e w' ⟨e1, ⟨S', e2, e3, e4⟩, e5⟩ => ⟨e1, by
    obtain ⟨v, a1, a2, a3, a4⟩ := e2.v
    obtain ⟨na, cap, ev, _⟩ := a2.form
    subst ev
    exact ⟨na, _, cap, by rw [cell_of_row w' _ 0 _ _ _ a1]; rfl, a2, fun b hb => (a4 b hb).2.2, e2.kp, e5⟩⟩
  have hmf : ∀ (fn : Fn) (first cap : Array Value) (w : World), (Instr.makeFunc fn first cap).run Tryz.prog w = .ok (.func fn first cap) w := fun _ _ _ _ => rfl
  clear k1 I0 T
  go_enter Tryz.func20, Tryz.ntmps20
  go_wp2_with fail
  with_reducible refine KE.out.mono ?_
  rintro e w1 ⟨rfl, na, n, cap, c1, H1⟩
  clear KE
  go_wp2
  go_ret
  exact ⟨⟨_, rfl, H1.out.1, H1.out.2.1⟩, H1.out.2.2⟩
/-- Each frame that is counted is one of the two tables' alone. -/
def DJ (C : Nat → Nat) (Za Zb : Nat → Bool) : Prop := ∀ x, C x ≠ 0 → Za x = !Zb x
theorem DJ.symm {C : Nat → Nat} {Za Zb : Nat → Bool} (h : DJ C Za Zb) : DJ C Zb Za := fun x hx => by rw [h x hx, Bool.not_not]
/-- The second one's tables stay behind a step of the first one's. -/
theorem TG.beside {M M' : Nat → Nat → Nat} {C C' : Nat → Nat} {pool : Nat} {Za Zb : Nat → Bool} {ra rb : Nat} {Ea Eb : Nat → Nat → DV} (a : TG M C pool Za ra Ea) (b : TG M C pool Zb rb Eb) (d : DJ C Za Zb) (ot : Ot Za M C M' C') : TG M' C' pool (oZ C C' Zb) rb Eb ∧ DJ C' Za (oZ C C' Zb) := by
  refine ⟨b.other fun x h1 h2 => ot x (by rw [d x h1, h2]; rfl), fun x hx => ?_⟩
  unfold oZ
  by_cases c : C x = 0
  · have : Za x = false := by
      cases e : Za x
      · rfl
      · exact absurd c (a.oth x e)
    rw [this, decide_eq_true hx, show decide (C x ≠ 0) = false from decide_eq_false (fun h => h c)]
    rfl
  · rw [d x c, decide_eq_true hx, decide_eq_true c]
    cases Zb x <;> rfl
/-- Two tables, and the document's beside the first one. -/
structure TA2 (W w : World) (ba bb p pm br bf ra rb : Nat) (X : Nat → Prop) (o : Nat) (M : Nat → Nat → Nat) (C : Nat → Nat) (Za Zb : Nat → Bool) (Ea Eb : Nat → Nat → DV) (v : Value) (L : List LV) (fr : Int) : Prop where
  bj : BJ W X w ba p pm 64 o M C Za ra Ea br bf v L fr false
  txb : TX w bb p rb
  xb : X bb
  lb : W.heap.size ≤ bb
  tgb : TG M C 64 Zb rb Eb
  neb : NE rb Eb (fun _ _ => False)
  dj : DJ C Za Zb
  n1 : bb ≠ br
  n2 : bb ≠ bf
  n3 : bb ≠ ba
  n4 : ∀ b, v.ownBlock = some b → b ≠ bb
section
variable {W w w' : World} {ba bb p pm br bf ra rb : Nat} {X : Nat → Prop} {o o' : Nat} {M : Nat → Nat → Nat} {C : Nat → Nat} {Za Zb : Nat → Bool} {Ea Eb : Nat → Nat → DV} {v : Value} {L : List LV} {fr : Int}
theorem TA2.kp (h : TA2 W w ba bb p pm br bf ra rb X o M C Za Zb Ea Eb v L fr) (k : Kp w w') : TA2 W w' ba bb p pm br bf ra rb X o M C Za Zb Ea Eb v L fr := ⟨h.bj.kps k, h.txb.kp k, h.xb, h.lb, h.tgb, h.neb, h.dj, h.n1, h.n2, h.n3, h.n4⟩
theorem TA2.le (h : TA2 W w ba bb p pm br bf ra rb X o M C Za Zb Ea Eb v L fr) (ho : o ≤ o') : TA2 W w ba bb p pm br bf ra rb X o' M C Za Zb Ea Eb v L fr := ⟨h.bj.le ho, h.txb, h.xb, h.lb, h.tgb, h.neb, h.dj, h.n1, h.n2, h.n3, h.n4⟩
theorem TA2.tsb (h : TA2 W w ba bb p pm br bf ra rb X o M C Za Zb Ea Eb v L fr) : TS W X w bb p pm 2100 64 o M C Zb rb Eb := ⟨h.bj.ts.fw, h.txb, h.xb, h.lb, h.tgb⟩
/-- A step of the second one's. -/
theorem TA2.acb {C' : Nat → Nat} {E' : Nat → Nat → DV} (h : TA2 W w ba bb p pm br bf ra rb X o M C Za Zb Ea Eb v L fr) (a : AC W X w w' bb p pm 2100 64 o' M C Zb rb C' E') : ∃ M' Za', TA2 W w' ba bb p pm br bf ra rb X o' M' C' Za' Zb Ea E' v L fr := by
  obtain ⟨⟨M', t, ot⟩, ne, f⟩ := a
  obtain ⟨tg, dj⟩ := h.tgb.beside h.bj.ts.tg h.dj.symm ot
  have hx := h.bj.xs
  exact ⟨M', oZ C C' Za, ⟨⟨t.fw, h.bj.ts.tx.fr f (fun c => c.2 h.bj.ts.xb), h.bj.ts.xb, h.bj.ts.bw, tg⟩, h.bj.ne, h.bj.rq.fr f (fun c => c.2 (hx br (.inl rfl)).2.1) (fun c => c.2 (hx bf (.inr (.inl rfl))).2.1) (fun b hb c => c.2 (hx b (.inr (.inr hb))).2.1), hx⟩, t.tx, h.xb, h.lb, t.tg, ne, dj.symm, h.n1, h.n2, h.n3, h.n4⟩
end
/-- Between the steps. -/
def TA (W w : World) (ba bb p pm br bf ra rb i : Nat) : Prop := ∃ X M C Za Zb Ea Eb v L fr, TA2 W w ba bb p pm br bf ra rb X (i * 3000) M C Za Zb Ea Eb v L fr ∧ L.length ≤ 511 * i ∧ fr + (tabL L : Int) = 62
/-- .. beside a list of the first one's leaves. -/
def TAl (W w : World) (ba bb p pm br bf ra rb i o : Nat) (va : Value) (A : List LV) : Prop := ∃ X M C Za Zb Ea Eb v L fr, TA2 W w ba bb p pm br bf ra rb X (i * 3000 + o) M C Za Zb Ea Eb v L fr ∧ L.length ≤ 511 * i ∧ fr + (tabL L : Int) = 62 ∧ OL encL 58 7 w va A ∧ A = lvsA Ea ∧ A.length ≤ 268960770 ∧ ∀ b, va.ownBlock = some b → X b ∧ b ≠ bb
section
variable {W w w' : World} {ba bb p pm br bf ra rb i o : Nat} {va : Value} {A : List LV}
theorem TA.kp (h : TA W w ba bb p pm br bf ra rb i) (k : Kp w w') : TA W w' ba bb p pm br bf ra rb i := by
  obtain ⟨X, M, C, Za, Zb, Ea, Eb, v, L, fr, h1, h2⟩ := h
  exact ⟨X, M, C, Za, Zb, Ea, Eb, v, L, fr, h1.kp k, h2⟩
theorem TA.k (h : TA W w ba bb p pm br bf ra rb i) : Kp W w := by
  obtain ⟨X, M, C, Za, Zb, Ea, Eb, v, L, fr, h1, h2⟩ := h
  exact h1.bj.ts.fw.kp
theorem TA.mono {j : Nat} (h : TA W w ba bb p pm br bf ra rb i) (hj : i ≤ j) : TA W w ba bb p pm br bf ra rb j := by
  obtain ⟨X, M, C, Za, Zb, Ea, Eb, v, L, fr, h1, h2, h3⟩ := h
  exact ⟨X, M, C, Za, Zb, Ea, Eb, v, L, fr, h1.le (by omega), by omega, h3⟩
theorem TAl.kp (h : TAl W w ba bb p pm br bf ra rb i o va A) (k : Kp w w') : TAl W w' ba bb p pm br bf ra rb i o va A := by
  obtain ⟨X, M, C, Za, Zb, Ea, Eb, v, L, fr, h1, h2, h3, h4, h5⟩ := h
  exact ⟨X, M, C, Za, Zb, Ea, Eb, v, L, fr, h1.kp k, h2, h3, h4.fr (k.fr (fun _ => False)) (fun _ _ => id), h5⟩
theorem TAl.k (h : TAl W w ba bb p pm br bf ra rb i o va A) : Kp W w := by
  obtain ⟨X, M, C, Za, Zb, Ea, Eb, v, L, fr, h1, h2⟩ := h
  exact h1.bj.ts.fw.kp
theorem TAl.ta (h : TAl W w ba bb p pm br bf ra rb i o va A) (ho : o ≤ 3000) : TA W w ba bb p pm br bf ra rb (i + 1) := by
  obtain ⟨X, M, C, Za, Zb, Ea, Eb, v, L, fr, h1, h2, h3, _⟩ := h
  exact ⟨X, M, C, Za, Zb, Ea, Eb, v, L, fr, h1.le (by omega), by omega, h3⟩
theorem TA.step (h : TA W w ba bb p pm br bf ra rb i) (hi : i < 30) (q : OpV) (hq : q.pg < 18446744073709551616) (m : Nat) (t : Int) (k1 : q.kd.tmod 11 = t) (k2 : -11 < t) (k3 : t < 11) (k4 : (t + 11).tmod 11 = (m : Int)) (k5 : m < 11) (k6 : m ≠ 10) :
    Calls Tryz.prog 9 #[.pointer (some ⟨ba, 0, none⟩), .pointer (some ⟨br, 0, none⟩), .agg #[.int .i64 q.kd, .int .i64 q.fm, .int .i64 q.sf, .int .u64 (q.pg : Int), .bool q.r, .bool q.q, .bool q.x, .bool q.raw]] w fun e w' => (∃ z, e = .returned (.bool z)) ∧ TA W w' ba bb p pm br bf ra rb (i + 1) := by
  obtain ⟨X, M, C, Za, Zb, Ea, Eb, v, L, fr, h1, h2, h3⟩ := h
  have tl := tabL_le h1.bj.rq.ok
  have lim := h1.tsb.fw
  obtain ⟨ops, B, _, _, S, f⟩ := lim
  refine (step_any h1.bj q.kd q.fm q.sf q.pg q.r q.q q.x q.raw hq m t k1 k2 k3 k4 k5 k6 (by omega) (by omega) (by omega) f.lt).mono ?_
  rintro e w' ⟨z, rfl, C', E', L', fr', _, _, _, _, _, s, _⟩
  obtain ⟨X', M', v', b, sx, ot⟩ := s.ex
  obtain ⟨tg, dj⟩ := h1.bj.ts.tg.beside h1.tgb h1.dj ot
  have hb := f.lt bb h1.xb
  have kx := sx.keep bb h1.xb h1.n1 h1.n2 (fun c => h1.n4 bb c rfl)
  refine ⟨⟨z, rfl⟩, X', M', C', Za, _, E', Eb, v', L', fr', ⟨b.le (by omega), kx.trans h1.txb, sx.wide bb h1.xb, h1.lb, tg, h1.neb, dj, h1.n1, h1.n2, h1.n3, fun c hc e => ?_⟩, by have := s.sum.2; omega, by have := s.sum.1; omega⟩
  subst e
  rcases sx.own c hc with d | d
  · exact h1.n4 c d rfl
  · omega
theorem TA.leaves (h : TA W w ba bb p pm br bf ra rb i) :
    Calls Tryz.prog 20 #[.pointer (some ⟨ba, 0, none⟩)] w fun e w' => ∃ va A, e = .returned va ∧ TAl W w' ba bb p pm br bf ra rb i 0 va A := by
  obtain ⟨X, M, C, Za, Zb, Ea, Eb, v, L, fr, h1, h2, h3⟩ := h
  refine (leaves_new h1.bj.ts).mono ?_
  rintro e w' ⟨⟨va, rfl, ol, nw⟩, k, hl⟩
  have hlt : ∀ b, va.ownBlock = some b → b < w'.heap.size := fun b hb => by
    obtain ⟨na, cap, e, _, hc⟩ := OL.form ol
    rcases hc with ⟨rfl, rfl, _⟩ | ⟨g, rfl, hg⟩
    · rw [e] at hb; cases hb
    · rw [e] at hb; cases hb; exact hg
  have b := h1.bj
  have ts : TS W (fun i => X i ∨ va.ownBlock = some i) w' ba p pm 2100 64 (i * 3000) M C Za ra Ea := b.ts.wide (k.fr (fun _ => False)) (fun _ c => c.elim) id (fun i hi => hi.imp id (fun c => ⟨nw i c, hlt i c⟩)) (.inl b.ts.xb)
  refine ⟨va, _, rfl, fun i => X i ∨ va.ownBlock = some i, M, C, Za, Zb, Ea, Eb, v, L, fr, ⟨⟨ts, b.ne, b.rq.kp k, fun i hi => ⟨(b.xs i hi).1, .inl (b.xs i hi).2.1, (b.xs i hi).2.2⟩⟩, h1.txb.kp k, .inl h1.xb, h1.lb, h1.tgb, h1.neb, h1.dj, h1.n1, h1.n2, h1.n3, h1.n4⟩, h2, h3, ol, rfl, hl, fun b hb => ⟨.inr hb, fun c => by have := nw b hb; have := h1.txb.lt; omega⟩⟩
theorem TAl.leaves (h : TAl W w ba bb p pm br bf ra rb i o va A) :
    Calls Tryz.prog 20 #[.pointer (some ⟨ba, 0, none⟩)] w fun e w' => ∃ vb, e = .returned vb ∧ OL encL 58 7 w' vb A ∧ TAl W w' ba bb p pm br bf ra rb i o va A := by
  have h0 := h
  obtain ⟨X, M, C, Za, Zb, Ea, Eb, v, L, fr, h1, h2, h3, h4, rfl, h6⟩ := h
  refine (leaves_new h1.bj.ts).mono ?_
  rintro e w' ⟨⟨vb, rfl, ol, nw⟩, k, hl⟩
  exact ⟨vb, rfl, ol, h0.kp k⟩
theorem TAl.map (h : TAl W w ba bb p pm br bf ra rb i o va A) (page : Nat) (f : Int) (r q x : Bool) (s : Int) (hi : i ≤ 100) (ho : o ≤ 3000) :
    Calls Tryz.prog 21 #[.pointer (some ⟨bb, 0, none⟩), .int .u64 (page : Int), .int .i64 f, .agg #[.bool r, .bool q, .bool x], .int .i64 s] w fun e w' => (∃ rr, e = .returned (.int .i64 rr)) ∧ TAl W w' ba bb p pm br bf ra rb i (o + 600) va A := by
  obtain ⟨X, M, C, Za, Zb, Ea, Eb, v, L, fr, h1, h2, h3, h4, h5, h6, h7⟩ := h
  refine (map_any h1.tsb h1.neb page f r q x s (by omega)).mono ?_
  rintro e w' ⟨rfl, C', E', ac, _⟩
  obtain ⟨M', Za', t⟩ := h1.acb (ac.le (o' := i * 3000 + (o + 600)) (by omega))
  exact ⟨⟨_, rfl⟩, X, M', C', Za', Zb, Ea, E', v, L, fr, t, h2, h3, h4.fr ac.fr (fun b hb c => c.2 (h7 b hb).1), h5, h6, h7⟩
theorem TAl.unmap (h : TAl W w ba bb p pm br bf ra rb i o va A) (page : Nat) (hi : i ≤ 100) (ho : o ≤ 3000) :
    Calls Tryz.prog 23 #[.pointer (some ⟨bb, 0, none⟩), .int .u64 (page : Int)] w fun e w' => (∃ (fx : Nat) (rr : Int), e = .returned (.tuple #[.int .i64 (fx : Int), .int .i64 rr])) ∧ TAl W w' ba bb p pm br bf ra rb i (o + 600) va A := by
  obtain ⟨X, M, C, Za, Zb, Ea, Eb, v, L, fr, h1, h2, h3, h4, h5, h6, h7⟩ := h
  refine (punmap_any h1.tsb h1.neb page (by omega)).mono ?_
  rintro e w' ⟨fx, rfl, C', E', ac, _⟩
  obtain ⟨M', Za', t⟩ := h1.acb (ac.le (o' := i * 3000 + (o + 600)) (by omega))
  exact ⟨⟨_, _, rfl⟩, X, M', C', Za', Zb, Ea, E', v, L, fr, t, h2, h3, h4.fr ac.fr (fun b hb c => c.2 (h7 b hb).1), h5, h6, h7⟩
end
/-- The first one, behind the second one's end. -/
def TFr (W w : World) (ba p pm : Nat) (va : Value) (A : List LV) (n : Nat) : Prop := ∃ X o M C Z r Ea, TS W X w ba p pm 2100 64 o M C Z r Ea ∧ OL encL 58 7 w va A ∧ A = lvsA Ea ∧ A.length ≤ 268960770 ∧ cnt (ownC C Z) 64 = n ∧ cnt (fT 64 C) 64 + n = 64
section
variable {W w w' : World} {ba bb p pm br bf ra rb i o n : Nat} {va : Value} {A : List LV}
theorem TFr.kp (h : TFr W w ba p pm va A n) (k : Kp w w') : TFr W w' ba p pm va A n := by
  obtain ⟨X, o, M, C, Z, r, Ea, h1, h2, h3⟩ := h
  exact ⟨X, o, M, C, Z, r, Ea, h1.kps k, h2.fr (k.fr (fun _ => False)) (fun _ _ => id), h3⟩
theorem TFr.k (h : TFr W w ba p pm va A n) : Kp W w := by
  obtain ⟨X, o, M, C, Z, r, Ea, h1, h2, h3⟩ := h
  exact h1.fw.kp
theorem TFr.leaves (h : TFr W w ba p pm va A n) :
    Calls Tryz.prog 20 #[.pointer (some ⟨ba, 0, none⟩)] w fun e w' => ∃ vb, e = .returned vb ∧ OL encL 58 7 w' vb A ∧ TFr W w' ba p pm va A n := by
  have h0 := h
  obtain ⟨X, o, M, C, Z, r, Ea, h1, h2, rfl, h3⟩ := h
  refine (leaves_new h1).mono ?_
  rintro e w' ⟨⟨vb, rfl, ol, nw⟩, k, hl⟩
  exact ⟨vb, rfl, ol, h0.kp k⟩
theorem TFr.count (h : TFr W w ba p pm va A n) : Calls Tryz.prog 24 #[.pointer (some ⟨ba, 0, none⟩)] w fun e w' => e = .returned (.int .i64 (n : Int)) ∧ Kp w w' := by
  obtain ⟨X, o, M, C, Z, r, Ea, h1, h2, h3, h4, h5, h6⟩ := h
  rw [← h5]
  exact tcount_any h1
theorem TFr.frees (h : TFr W w ba p pm va A n) : ∃ (f1 : Nat) (f2 : Nat), f2 + n = 64 ∧ Calls Tryz.prog 10 #[.pointer (some ⟨p, 0, none⟩)] w fun e w' => e = .returned (.tuple #[.int .i64 (f1 : Int), .int .i64 (f2 : Int)]) ∧ Kp w w' := by
  obtain ⟨X, o, M, C, Z, r, Ea, h1, h2, h3, h4, h5, h6⟩ := h
  exact ⟨_, _, h6, (wfree_any h1.fw).mono fun e w' ⟨e1, e2⟩ => ⟨e1, e2.kp⟩⟩
theorem TAl.ends (h : TAl W w ba bb p pm br bf ra rb i o va A) :
    ∃ n : Nat, n ≤ 64 ∧ (∀ w', Kp w w' → Calls Tryz.prog 24 #[.pointer (some ⟨ba, 0, none⟩)] w' fun e w'' => e = .returned (.int .i64 (n : Int)) ∧ Kp w' w'') ∧ (∀ w', Kp w w' → Calls Tryz.prog 25 #[.pointer (some ⟨bb, 0, none⟩)] w' fun e w'' => e = .returned (.int .i64 0) ∧ TFr W w'' ba p pm va A n) := by
  obtain ⟨X, M, C, Za, Zb, Ea, Eb, v, L, fr, h1, h2, h3, h4, h5, h6, h7⟩ := h
  refine ⟨_, cnt_le _ _, fun w' k => tcount_any (h1.bj.ts.kps k), fun w' k => ?_⟩
  refine (tfree_any (h1.tsb.kps k)).mono ?_
  rintro e w'' ⟨e1, ⟨M', fw, ot⟩, _, f⟩
  obtain ⟨tg, dj⟩ := h1.tgb.beside h1.bj.ts.tg h1.dj.symm ot
  have na : ¬ (Out W X ba ∨ ba = bb) := fun c => c.elim (fun c => c.2 h1.bj.ts.xb) (fun c => h1.n3 c.symm)
  refine ⟨e1, X, _, M', _, _, ra, Ea, ⟨fw, (h1.bj.ts.tx.kp k).fr f na, h1.bj.ts.xb, h1.bj.ts.bw, tg⟩, OL.fr (OL.fr h4 (k.fr (fun _ => False)) (fun _ _ => id)) f (fun b hb c => c.elim (fun c => c.2 (h7 b hb).1) (h7 b hb).2), h5, h6, by rw [← tg.tabs_len, ← h1.bj.ts.tg.tabs_len], ?_⟩
  rw [← h1.bj.ts.tg.tabs_len, tg.tabs_len]
  refine cnt_both _ _ 64 fun x hx => ?_
  have hc : ∀ y, y < 64 → offC C (tabsA rb Eb) y ≠ 0 → C y ≠ 0 ∧ Za y = false := fun y hy a => by
    unfold offC at a
    by_cases c : y * 4096 ∈ tabsA rb Eb
    · rw [if_pos c] at a; exact absurd rfl a
    · rw [if_neg c] at a
      refine ⟨a, ?_⟩
      rw [h1.dj y a]
      cases e : Zb y
      · obtain ⟨l, j, hl, ht⟩ := h1.tgb.all y hy a e
        exact absurd ((h1.tgb.tabs_mem _).2 ⟨l, j, y, hl, ht, rfl⟩) c
      · rfl
  unfold ownC fT oZ
  by_cases c : offC C (tabsA rb Eb) x = 0
  · rw [decide_eq_true hx, decide_eq_true c, show decide (offC C (tabsA rb Eb) x ≠ 0) = false from decide_eq_false (fun h => h c)]
    rfl
  · obtain ⟨c1, c2⟩ := hc x hx c
    rw [decide_eq_true hx, decide_eq_false c, decide_eq_true c, decide_eq_true c1, c2]
    rfl
end

end Go.Proofs.YtanlcmdnhhdhaaaGreatDoor
