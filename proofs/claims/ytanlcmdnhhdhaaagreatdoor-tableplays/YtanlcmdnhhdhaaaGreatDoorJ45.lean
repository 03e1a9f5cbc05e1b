/- Joined: R7C, R6J, R7D. -/
import Derived.Test.YtanlcmdnhhdhaaaGreatDoorJ44
import Derived.Test.YtanlcmdnhhdhaaaGreatDoorJ21
/- TablePlays: a step on a side that is there. -/
namespace Go.Proofs.YtanlcmdnhhdhaaaGreatDoor
open Go.RowKit
set_option maxRecDepth 10000

/-- What the document's call of a kind says. -/
structure DDm (m : Nat) (L : List LV) (fr : Int) (p3 : Nat) (f3 s : Int) (R Q Y : Bool) (yy bb : Int) (L' : List LV) (fr' : Int) : Prop where
  map : m < 3 → bb = 0 ∧ DMap false L fr p3 f3 R Q Y s yy L' fr'
  mapb : m = 3 → bb = 0 ∧ DMpb false L fr p3 f3 R Q Y s yy L' fr'
  unmap : (m = 4 ∨ m = 5) → ∃ fy : Nat, bb = (fy : Int) ∧ DUnm false L fr p3 fy yy L' fr'
  prot : m = 6 → bb = 0 ∧ DPro false L fr p3 R Q Y s yy L' fr'
  split : m = 7 → bb = 0 ∧ DSpl false L fr p3 yy L' fr'
  join : m = 8 → bb = 0 ∧ DJoi false L fr p3 yy L' fr'
/-- Behind the step: the side is there, and both tell the same. -/
def LVk (W w0 : World) (X0 : Nat → Prop) (v0 : Value) (bt p pm pool o : Nat) (M0 : Nat → Nat → Nat) (C0 : Nat → Nat) (Z : Nat → Bool) (root br bf : Nat) (L0 : List LV) (fr0 : Int) (P : (Nat → Nat → DV) → Prop) (w : World) : Prop :=
  ∃ C E L fr, SWk W w0 X0 v0 bt p pm pool o M0 C0 Z root br bf L0 fr0 w C E L fr ∧ RL E L ∧ fr = (cnt (fT pool C) pool : Int) ∧ P E
/-- .. it is gone. -/
def GNk (W w0 : World) (X0 : Nat → Prop) (v0 : Value) (bt p pm pool o : Nat) (M0 : Nat → Nat → Nat) (C0 : Nat → Nat) (Z : Nat → Bool) (root br bf : Nat) (E : Nat → Nat → DV) (L0 : List LV) (fr0 : Int) (w : World) : Prop :=
  ∃ M, SG9 W w0 X0 v0 bt p pm pool o M (offC C0 (tabsA root E)) br bf (fr0 + (1 + (tabL L0 : Int))) w ∧ Ot Z M0 C0 M (offC C0 (tabsA root E))
section
variable {W w0 w w' : World} {X0 X : Nat → Prop} {v0 v : Value} {bt p pm pool o o' : Nat} {M0 M : Nat → Nat → Nat} {C0 C : Nat → Nat} {Z : Nat → Bool} {root br bf : Nat} {E : Nat → Nat → DV} {L0 L : List LV} {fr0 fr : Int} {P : (Nat → Nat → DV) → Prop}
theorem LVk.kp (h : LVk W w0 X0 v0 bt p pm pool o M0 C0 Z root br bf L0 fr0 P w) (k : Kp w w') : LVk W w0 X0 v0 bt p pm pool o M0 C0 Z root br bf L0 fr0 P w' := by
  obtain ⟨C, E, L, fr, h1, h2⟩ := h
  exact ⟨C, E, L, fr, h1.kp k, h2⟩
theorem GNk.kp (h : GNk W w0 X0 v0 bt p pm pool o M0 C0 Z root br bf E L0 fr0 w) (k : Kp w w') : GNk W w0 X0 v0 bt p pm pool o M0 C0 Z root br bf E L0 fr0 w' := by
  obtain ⟨M, h1, h2⟩ := h
  exact ⟨M, h1.kp k, h2⟩
theorem GNk.tx (h : GNk W w0 X0 v0 bt p pm pool o M0 C0 Z root br bf E L0 fr0 w) : TXn w bt := by
  obtain ⟨M, h1, h2⟩ := h
  exact h1.tx
end
section
variable {W w : World} {X : Nat → Prop} {v : Value} {bt p pm pool o : Nat} {M : Nat → Nat → Nat} {C : Nat → Nat} {Z : Nat → Bool} {root br bf : Nat} {E : Nat → Nat → DV} {L : List LV} {fr : Int}
/-- The document's call tells what the program's told. -/
theorem both_told (h : BJ W X w bt p pm pool o M C Z root E br bf v L fr false) (r : RL E L) (hfr : fr = (cnt (fT pool C) pool : Int)) {u : World} {C' : Nat → Nat} {E' : Nat → Nat → DV} {L' : List LV} {fr' xx yy aa bb : Int} (s : SWk W w X v bt p pm pool (o + 600) M C Z root br bf L fr u C' E' L' fr') (sr : SR pool Z root C E L fr C' E' L' fr' xx yy aa bb) : xx = yy ∧ aa = bb ∧ LVk W w X v bt p pm pool (o + 600) M C Z root br bf L fr (fun _ => True) u := by
  obtain ⟨X', M', v', b, _⟩ := s.ex
  have k := SR.both r h.ts.tg h.ne b.ts.tg b.ne hfr sr s.sum
  exact ⟨k.1, k.2.1, C', E', L', fr', s, k.2.2.1, k.2.2.2, trivial⟩
set_option maxHeartbeats 8000000 in
theorem live_swc (h : BJ W X w bt p pm pool o M C Z root E br bf v L fr false) (r : RL E L) (hfr : fr = (cnt (fT pool C) pool : Int)) (hl : L.length ≤ 800000) (hf : fr ≤ 1000000000) (ho : o < 100000000000000000) (hX : ∀ i, X i → i < w.heap.size) (b9 p3 : Nat) (f3 s : Int) (R Q Y : Bool) (hp : p3 < 18446744073709551616) (hb9 : w.heap.size ≤ b9) (m : Nat) (fm : Int) (hm : ¬ (m = 10 ∧ bits .and .i64 fm 15 = 0)) {JE : World → Prop} (hJ : ∀ u, LVk W w X v bt p pm pool (o + 1000) M C Z root br bf L fr (fun _ => True) u → JE u) :
    SWC bt br b9 p3 f3 s R Q Y m fm w (fun u => Kp w u ∧ PX u b9 R Q Y) (fun xx aa u => ∃ C' E', SB9 W w X v bt p pm pool (o + 600) M C Z root br bf L fr b9 R Q Y u C' E' ∧ ∀ yy bb L' fr', DDm m L fr p3 f3 s R Q Y yy bb L' fr' → SR pool Z root C E L fr C' E' L' fr' xx yy aa bb)
      (LVk W w X v bt p pm pool (o + 600) M C Z root br bf L fr (fun _ => True)) (fun y z n => LVk W w X v bt p pm pool (o + 604) M C Z root br bf L fr (fun E => y = getP E p3 ∧ z = isP E p3 ∧ n = (needP E p3 : Int))) (fun y z n => LVk W w X v bt p pm pool (o + 604) M C Z root br bf L fr (fun E => y = getP E p3 ∧ z = isP E p3 ∧ n = (needP E p3 : Int))) (fun y z n => LVk W w X v bt p pm pool (o + 608) M C Z root br bf L fr (fun E => y = getP E p3 ∧ z = isP E p3 ∧ n = (needP E p3 : Int))) JE := by
  have f0 : -1000000000 ≤ fr ∧ fr ≤ 1000000000 := ⟨by omega, hf⟩
  have sb : ∀ u, Kp w u ∧ PX u b9 R Q Y → SB9 W w X v bt p pm pool o M C Z root br bf L fr b9 R Q Y u C E := fun u hu => h.sb hX hu.1 hb9 hu.2
  have ho' : o < 1000000000000000000 := by omega
  refine { start := fun u k px => ⟨k, px⟩, px := fun u h => h.2, kp := fun u u' h k => ⟨h.1.trans k, h.2.kp k⟩, map := fun m0 u hu => ?_, rmap := fun m0 u xx hu => ?_, mapb := fun m0 u hu => ?_, rmapb := fun m0 u xx hu => ?_, prot := fun m0 u hu => ?_, rprot := fun m0 u xx hu => ?_, split := fun m0 u hu => ?_, rsplit := fun m0 u xx hu => ?_, join := fun m0 u hu => ?_, rjoin := fun m0 u xx hu => ?_, free := fun m0 m1 => absurd ⟨m0, m1⟩ hm, rfree := fun m0 m1 => absurd ⟨m0, m1⟩ hm, unmap := fun m0 u hu => ?_, runmap := fun m0 u xx fx hu => ?_, idle := fun _ u hu => ?_, get := fun u hu => ?_, k1 := fun u z n a b hu k => hu.kp k, rget := fun u z n a hu => ?_, k2 := fun u z n a b hu k => hu.kp k, need := fun u z n a hu => ?_, rneed := fun u z n a hu => ?_ }
  · refine (sb_map (sb u hu) p3 f3 s ho').mono ?_
    rintro e u' ⟨xx, e1, C', E', s4, hx, hp2⟩
    exact ⟨xx, e1, ⟨C', E', s4, fun yy bb L' fr' d => ⟨p3, f3, R, Q, Y, s, hp, .inl ⟨hx, hp2, (d.map m0).2, rfl, (d.map m0).1⟩⟩⟩, s4.px⟩
  · obtain ⟨C', E', s4, imp⟩ := hu
    refine (sb_dmap s4 p3 hp f3 s (by omega) f0).mono ?_
    rintro e u' ⟨yy, e1, L', fr', sw, d, p5⟩
    have t := both_told h r hfr sw (imp yy 0 L' fr' ⟨fun c => ⟨rfl, d⟩, fun c => (by omega), fun c => (by omega), fun c => (by omega), fun c => (by omega), fun c => (by omega)⟩)
    exact ⟨by rw [e1, t.1], t.2.2, p5⟩
  · refine (sb_mapb (sb u hu) p3 f3 s ho').mono ?_
    rintro e u' ⟨xx, e1, C', E', s4, hx, hp2⟩
    exact ⟨xx, e1, ⟨C', E', s4, fun yy bb L' fr' d => ⟨p3, f3, R, Q, Y, s, hp, .inr (.inl ⟨hx, hp2, (d.mapb m0).2, rfl, (d.mapb m0).1⟩)⟩⟩, s4.px⟩
  · obtain ⟨C', E', s4, imp⟩ := hu
    refine (sb_dmapb s4 p3 f3 s (by omega) f0).mono ?_
    rintro e u' ⟨yy, e1, L', fr', sw, d, p5⟩
    have t := both_told h r hfr sw (imp yy 0 L' fr' ⟨fun c => (by omega), fun c => ⟨rfl, d⟩, fun c => (by omega), fun c => (by omega), fun c => (by omega), fun c => (by omega)⟩)
    exact ⟨by rw [e1, t.1], t.2.2, p5⟩
  · refine (sb_prot (sb u hu) p3 s ho').mono ?_
    rintro e u' ⟨xx, e1, C', E', s4, hx, hp2⟩
    exact ⟨xx, e1, ⟨C', E', s4, fun yy bb L' fr' d => ⟨p3, f3, R, Q, Y, s, hp, .inr (.inr (.inr (.inl ⟨hx, hp2, (d.prot m0).2, rfl, (d.prot m0).1⟩)))⟩⟩, s4.px⟩
  · obtain ⟨C', E', s4, imp⟩ := hu
    refine (sb_dprot s4 p3 hp s (by omega) f0).mono ?_
    rintro e u' ⟨yy, e1, L', fr', sw, d, p5⟩
    have t := both_told h r hfr sw (imp yy 0 L' fr' ⟨fun c => (by omega), fun c => (by omega), fun c => (by omega), fun c => ⟨rfl, d⟩, fun c => (by omega), fun c => (by omega)⟩)
    exact ⟨by rw [e1, t.1], t.2.2, p5⟩
  · refine (sb_split (sb u hu) p3 ho').mono ?_
    rintro e u' ⟨xx, e1, C', E', s4, hx, hp2⟩
    exact ⟨xx, e1, ⟨C', E', s4, fun yy bb L' fr' d => ⟨p3, f3, R, Q, Y, s, hp, .inr (.inr (.inr (.inr (.inl ⟨hx, hp2, (d.split m0).2, rfl, (d.split m0).1⟩))))⟩⟩⟩
  · obtain ⟨C', E', s4, imp⟩ := hu
    refine (sb_dsplit s4 p3 hp (by omega) f0).mono ?_
    rintro e u' ⟨yy, e1, L', fr', sw, d, p5⟩
    have t := both_told h r hfr sw (imp yy 0 L' fr' ⟨fun c => (by omega), fun c => (by omega), fun c => (by omega), fun c => (by omega), fun c => ⟨rfl, d⟩, fun c => (by omega)⟩)
    exact ⟨by rw [e1, t.1], t.2.2⟩
  · refine (sb_join (sb u hu) p3 ho').mono ?_
    rintro e u' ⟨xx, e1, C', E', s4, hp2⟩
    exact ⟨xx, e1, ⟨C', E', s4, fun yy bb L' fr' d => ⟨p3, f3, R, Q, Y, s, hp, .inr (.inr (.inr (.inr (.inr (.inl ⟨hp2, (d.join m0).2, rfl, (d.join m0).1⟩)))))⟩⟩⟩
  · obtain ⟨C', E', s4, imp⟩ := hu
    refine (sb_djoin s4 p3 hp (by omega) f0).mono ?_
    rintro e u' ⟨yy, e1, L', fr', sw, d, p5⟩
    have t := both_told h r hfr sw (imp yy 0 L' fr' ⟨fun c => (by omega), fun c => (by omega), fun c => (by omega), fun c => (by omega), fun c => (by omega), fun c => ⟨rfl, d⟩⟩)
    exact ⟨by rw [e1, t.1], t.2.2⟩
  · refine (sb_unmap (sb u hu) p3 ho').mono ?_
    rintro e u' ⟨fx, xx, e1, C', E', s4, hx, hp2⟩
    refine ⟨(fx : Int), xx, e1, ⟨C', E', s4, fun yy bb L' fr' d => ?_⟩⟩
    obtain ⟨fy, e2, d⟩ := d.unmap m0
    exact ⟨p3, f3, R, Q, Y, s, hp, .inr (.inr (.inl ⟨fx, fy, rfl, e2, hx, hp2, d⟩))⟩
  · obtain ⟨C', E', s4, imp⟩ := hu
    refine (sb_dunmap s4 p3 hp (by omega) f0).mono ?_
    rintro e u' ⟨fy, yy, e1, L', fr', sw, d, p5⟩
    have t := both_told h r hfr sw (imp yy (fy : Int) L' fr' ⟨fun c => (by omega), fun c => (by omega), fun c => ⟨fy, rfl, d⟩, fun c => (by omega), fun c => (by omega), fun c => (by omega)⟩)
    exact ⟨by rw [e1, t.1, t.2.1], t.2.2⟩
  · obtain ⟨Y', M', v', h1, h2, h3, _⟩ := (sb u hu).ex
    exact ⟨C, E, L, fr, ⟨⟨Y', M', v', h1.le (by omega), h2, h3⟩, DSum.refl _ _⟩, r, hfr, trivial⟩
  · obtain ⟨C', E', L', fr', sw, rl, f, _⟩ := hu
    refine ⟨getP E' p3, isP E' p3, (needP E' p3 : Int), (sw_get sw p3 (by omega)).mono ?_⟩
    rintro e u' ⟨e1, s1⟩
    exact ⟨e1, C', E', L', fr', s1, rl, f, rfl, rfl, rfl⟩
  · obtain ⟨C', E', L', fr', sw, rl, f, rfl, rfl, q3⟩ := hu
    have sm := sw.sum.2
    obtain ⟨X', M', v', b, _⟩ := sw.ex
    refine (sw_dget sw p3 hp (by omega)).mono ?_
    rintro e u' ⟨e1, s1, k⟩
    rw [← both_get rl b.ts.tg p3, ← both_is rl b.ts.tg p3] at e1
    exact ⟨e1, ⟨C', E', L', fr', s1, rl, f, rfl, rfl, q3⟩, k⟩
  · obtain ⟨C', E', L', fr', sw, rl, f, q1, q2, rfl⟩ := hu
    refine (sw_need sw p3 (by omega)).mono ?_
    rintro e u' ⟨e1, s1⟩
    exact ⟨e1, C', E', L', fr', s1, rl, f, q1, q2, rfl⟩
  · obtain ⟨C', E', L', fr', sw, rl, f, q1, q2, rfl⟩ := hu
    have sm := sw.sum.2
    obtain ⟨X', M', v', b, _⟩ := sw.ex
    refine (sw_dneed sw p3 hp (by omega)).mono ?_
    rintro e u' ⟨e1, s1, k⟩
    rw [← both_need rl b.ts.tg b.ne p3] at e1
    exact ⟨e1, hJ _ ⟨C', E', L', fr', s1.le (by omega), rl, f, trivial⟩⟩
set_option maxHeartbeats 8000000 in
/-- Free: the side is gone. -/
theorem free_swc (h : BJ W X w bt p pm pool o M C Z root E br bf v L fr false) (hl : L.length ≤ 800000) (hf : -100000000 ≤ fr ∧ fr ≤ 100000000) (hX : ∀ i, X i → i < w.heap.size) (b9 p3 : Nat) (f3 s : Int) (R Q Y : Bool) (hp : p3 < 18446744073709551616) (m : Nat) (fm : Int) (hm : m = 10) (hz : bits .and .i64 fm 15 = 0) {JE : World → Prop} (hJ : ∀ u, GNk W w X v bt p pm pool o M C Z root br bf E L fr u → JE u) :
    SWC bt br b9 p3 f3 s R Q Y m fm w (fun u => Kp w u ∧ PX u b9 R Q Y) (fun xx aa u => xx = 0 ∧ aa = 0 ∧ ∃ M', FW W X u p pm 2100 pool o M' (offC C (tabsA root E)) ∧ Ot Z M C M' (offC C (tabsA root E)) ∧ TXn u bt ∧ RQ u br bf v L fr false ∧ SYk w u X X bt br bf v v) (GNk W w X v bt p pm pool o M C Z root br bf E L fr) (fun y z n u => y = lvZ ∧ z = false ∧ n = 0 ∧ GNk W w X v bt p pm pool o M C Z root br bf E L fr u) (fun y z n u => y = lvZ ∧ z = false ∧ n = 0 ∧ GNk W w X v bt p pm pool o M C Z root br bf E L fr u) (fun y z n u => y = lvZ ∧ z = false ∧ n = 0 ∧ GNk W w X v bt p pm pool o M C Z root br bf E L fr u) JE := by
  refine { start := fun u k px => ⟨k, px⟩, px := fun u h => h.2, kp := fun u u' h k => ⟨h.1.trans k, h.2.kp k⟩, map := fun m0 => by omega, rmap := fun m0 => by omega, mapb := fun m0 => by omega, rmapb := fun m0 => by omega, prot := fun m0 => by omega, rprot := fun m0 => by omega, split := fun m0 => by omega, rsplit := fun m0 => by omega, join := fun m0 => by omega, rjoin := fun m0 => by omega, free := fun _ _ u hu => ?_, rfree := fun _ _ u xx hu => ?_, unmap := fun m0 => by omega, runmap := fun m0 => by omega, idle := fun c => ?_, get := fun u hu => ?_, k1 := fun u z n a b hu k => ⟨hu.1, hu.2.1, hu.2.2.1, hu.2.2.2.kp k⟩, rget := fun u z n a hu => ?_, k2 := fun u z n a b hu k => ⟨hu.1, hu.2.1, hu.2.2.1, hu.2.2.2.kp k⟩, need := fun u z n a hu => ?_, rneed := fun u z n a hu => ?_ }
  · refine (tfree_any (h.ts.kps hu.1)).mono ?_
    rintro e u' ⟨e1, ⟨M', fw, ot⟩, tx, f⟩
    have nb : ∀ i, X i → i ≠ bt → ¬ (Out W X i ∨ i = bt) := fun i hi n c => c.elim (fun c => c.2 hi) n
    have x1 := h.xs br (.inl rfl)
    have x2 := h.xs bf (.inr (.inl rfl))
    refine ⟨0, e1, rfl, rfl, M', fw, ot, tx, (h.rq.kp hu.1).fr f (nb br x1.2.1 x1.2.2) (nb bf x2.2.1 x2.2.2) (fun b hb => nb b (h.xs b (.inr (.inr hb))).2.1 (h.xs b (.inr (.inr hb))).2.2), ?_⟩
    exact ⟨fun _ => id, fun _ => .inl, fun i hi n0 _ _ _ => (f.block i (Nat.lt_of_lt_of_le (hX i hi) hu.1.size) (nb i hi n0)).trans (hu.1.block i (hX i hi)), fun _ => .inl, Nat.le_trans hu.1.size f.size, hX⟩
  · obtain ⟨rfl, _, M', fw, ot, tx, rq, sy⟩ := hu
    refine (rdrop_any rq (by omega) (by omega) 0 rfl).mono ?_
    rintro e u' ⟨e1, e2⟩
    exact ⟨e1, M', gj_rn h.xs fw tx h.ts.xb h.ts.bw sy (e2.out.1 rfl).2 rq, ot⟩
  · exfalso
    rcases c with c | c
    · omega
    · exact c.2 hz
  · exact ⟨lvZ, false, 0, (get_no (.inl hu.tx)).mono fun e u' ⟨e1, k⟩ => ⟨e1, rfl, rfl, rfl, hu.kp k⟩⟩
  · obtain ⟨rfl, rfl, rfl, hu⟩ := hu
    have hu2 := hu
    obtain ⟨M', sg, _⟩ := hu2
    obtain ⟨X', v', g, _⟩ := sg.ex
    refine (rget_any g.rq (by simp) p3 hp).mono ?_
    rintro e u' ⟨e1, k⟩
    have i := gone_idle p3
    rw [i.1, i.2.1] at e1
    exact ⟨e1, ⟨rfl, rfl, rfl, hu.kp k⟩, k⟩
  · obtain ⟨rfl, rfl, rfl, hu⟩ := hu
    exact (need_no (.inl hu.tx)).mono fun e u' ⟨e1, e2⟩ => ⟨e1, rfl, rfl, rfl, by rw [e2]; exact hu⟩
  · obtain ⟨rfl, rfl, rfl, hu⟩ := hu
    have hu2 := hu
    obtain ⟨M', sg, _⟩ := hu2
    obtain ⟨X', v', g, _⟩ := sg.ex
    refine (rneed_any g.rq (by simp) p3 hp).mono ?_
    rintro e u' ⟨e1, k⟩
    rw [(gone_idle p3).2.2] at e1
    exact ⟨e1, hJ _ (hu.kp k)⟩
end

end Go.Proofs.YtanlcmdnhhdhaaaGreatDoor

/- Two tables' frames are apart. -/
namespace Go.Proofs.YtanlcmdnhhdhaaaGreatDoor
open Go.RowKit

/-- Each frame that is counted is one of the two tables' alone. -/
def DJ (C : Nat → Nat) (Za Zb : Nat → Bool) : Prop := ∀ x, C x ≠ 0 → Za x = !Zb x
theorem DJ.symm {C : Nat → Nat} {Za Zb : Nat → Bool} (h : DJ C Za Zb) : DJ C Zb Za := fun x hx => by rw [h x hx, Bool.not_not]

end Go.Proofs.YtanlcmdnhhdhaaaGreatDoor

/- TablePlays: a step on one side, whether it is there or gone. -/
namespace Go.Proofs.YtanlcmdnhhdhaaaGreatDoor
open Go.RowKit
set_option maxRecDepth 10000

theorem OL.blk {α : Type} {enc : α → List Value} {sz : Nat} {e : TypeId} {w w' : World} {v : Value} {L : List α} (h : OL enc e sz w v L) (hb : ∀ g, v.ownBlock = some g → w'.heap[g]? = w.heap[g]?) : OL enc e sz w' v L := by
  rcases h.2 with ⟨h1, h2⟩ | ⟨g, cap, cur, h1, h2, h3, h4⟩
  · exact ⟨h.1, .inl ⟨h1, h2⟩⟩
  · exact ⟨h.1, .inr ⟨g, cap, cur, h1, h2, (hb g (by rw [h1]; rfl)).trans h3, h4⟩⟩
/-- The side is there: its table, its list. -/
def SDl (w : World) (p pool i : Nat) (M : Nat → Nat → Nat) (C : Nat → Nat) (Z : Nat → Bool) (bt br bf : Nat) (v : Value) (fr : Int) : Prop := ∃ root E L, TX w bt p root ∧ TG M C pool Z root E ∧ NE root E (fun _ _ => False) ∧ RQ w br bf v L fr false ∧ RL E L ∧ L.length ≤ 511 * i
/-- It is gone. -/
def SDg (w : World) (pool : Nat) (C : Nat → Nat) (Z : Nat → Bool) (bt br bf : Nat) (v : Value) (fr : Int) : Prop := TXn w bt ∧ RQ w br bf v [] fr true ∧ ∀ x, x < pool → C x ≠ 0 → Z x = true
structure SD (W : World) (X : Nat → Prop) (w : World) (p pool i : Nat) (M : Nat → Nat → Nat) (C : Nat → Nat) (Z : Nat → Bool) (bt br bf : Nat) (v : Value) (fr : Int) : Prop where
  xs : ∀ j, (j = bt ∨ j = br ∨ j = bf ∨ v.ownBlock = some j) → W.heap.size ≤ j ∧ X j
  n1 : ∀ j, (j = br ∨ j = bf ∨ v.ownBlock = some j) → j ≠ bt
  st : SDl w p pool i M C Z bt br bf v fr ∨ SDg w pool C Z bt br bf v fr
theorem SD.rq {W : World} {X : Nat → Prop} {w : World} {p pool i : Nat} {M : Nat → Nat → Nat} {C : Nat → Nat} {Z : Nat → Bool} {bt br bf : Nat} {v : Value} {fr : Int} (h : SD W X w p pool i M C Z bt br bf v fr) : ∃ L g, RQ w br bf v L fr g := by
  rcases h.st with ⟨root, E, L, _, _, _, rq, _⟩ | ⟨_, rq, _⟩
  · exact ⟨L, false, rq⟩
  · exact ⟨[], true, rq⟩
/-- What a step on a side leaves. -/
def RES (W w : World) (X : Nat → Prop) (p pm pool o i : Nat) (M : Nat → Nat → Nat) (C : Nat → Nat) (Z : Nat → Bool) (bt br bf : Nat) (v : Value) (u : World) : Prop :=
  ∃ X' M' C' Z' v' fr', FW W X' u p pm 2100 pool (o + 1000) M' C' ∧ fr' = (cnt (fT pool C') pool : Int) ∧ SD W X' u p pool (i + 1) M' C' Z' bt br bf v' fr' ∧ SYk w u X X' bt br bf v v' ∧ Ot Z M C M' C' ∧ ∀ Zb, DJ C Z Zb → DJ C' Z' (oZ C C' Zb)
theorem oZ_on {C C' : Nat → Nat} {Zb : Nat → Bool} {x : Nat} (h : C x ≠ 0) (h' : C' x ≠ 0) : oZ C C' Zb x = Zb x := by
  unfold oZ
  rw [decide_eq_true h, decide_eq_true h']
  cases Zb x <;> rfl
theorem oZ_new {C C' : Nat → Nat} {Zb : Nat → Bool} {x : Nat} (h : C x = 0) (h' : C' x ≠ 0) : oZ C C' Zb x = true := by
  unfold oZ
  rw [decide_eq_true h', decide_eq_false (fun c => c h)]
  rfl
section
variable {W w : World} {X : Nat → Prop} {v : Value} {bt p pm pool o i : Nat} {M : Nat → Nat → Nat} {C : Nat → Nat} {Z : Nat → Bool} {root br bf : Nat} {E : Nat → Nat → DV} {L : List LV} {fr : Int}
theorem dj_live {C' : Nat → Nat} {Zb : Nat → Bool} (oth : ∀ x, Z x = true → C x ≠ 0) (d : DJ C Z Zb) : DJ C' Z (oZ C C' Zb) := fun x hx => by
  by_cases c : C x = 0
  · rw [oZ_new c hx]
    cases e : Z x
    · rfl
    · exact absurd c (oth x e)
  · rw [oZ_on c hx]
    exact d x c
theorem dj_same {Zb : Nat → Bool} (d : DJ C Z Zb) : DJ C Z (oZ C C Zb) := fun x hx => by rw [oZ_on hx hx]; exact d x hx
theorem offC_ne {x : Nat} (h : offC C (tabsA root E) x ≠ 0) : C x ≠ 0 ∧ ¬ x * 4096 ∈ tabsA root E ∧ offC C (tabsA root E) x = C x := by
  unfold offC at *
  by_cases c : x * 4096 ∈ tabsA root E
  · rw [if_pos c] at h; exact absurd rfl h
  · rw [if_neg c] at h ⊢; exact ⟨h, c, rfl⟩
theorem off_mine (h : TG M C pool Z root E) {x : Nat} (hx : x < pool) (h' : offC C (tabsA root E) x ≠ 0) : Z x = true := by
  obtain ⟨a, b, _⟩ := offC_ne h'
  cases e : Z x
  · obtain ⟨l, j, hl, ht⟩ := h.all x hx a e
    exact absurd ((h.tabs_mem _).2 ⟨l, j, x, hl, ht, rfl⟩) b
  · rfl
theorem off_far (h : TG M C pool Z root E) {x : Nat} (hx : ¬ x < pool) : offC C (tabsA root E) x = C x := by
  unfold offC
  rw [if_neg]
  intro c
  obtain ⟨l, j, y, hl, ht, e⟩ := (h.tabs_mem _).1 c
  have := (h.mine l j y hl ht).1
  omega
/-- What is free behind Free. -/
theorem off_free (r : RL E L) (h : TG M C pool Z root E) (ne : NE root E (fun _ _ => False)) : cnt (fT pool (offC C (tabsA root E))) pool = cnt (fT pool C) pool + (1 + tabL L) := by
  have a := r.free h ne
  have b : cnt (fT pool (offC C (tabsA root E))) pool + cnt Z pool = pool := cnt_both _ _ pool fun x hx => by
    unfold fT
    rw [decide_eq_true hx, Bool.true_and]
    by_cases c : offC C (tabsA root E) x = 0
    · rw [decide_eq_true c]
      cases e : Z x
      · rfl
      · exfalso
        have := h.oth x e
        unfold offC at c
        by_cases c2 : x * 4096 ∈ tabsA root E
        · obtain ⟨l, j, y, hl, ht, ey⟩ := (h.tabs_mem _).1 c2
          obtain rfl : x = y := by omega
          have := (h.mine l j x hl ht).2.2
          rw [e] at this
          cases this
        · rw [if_neg c2] at c; exact this c
    · rw [decide_eq_false c, off_mine h hx c]
      rfl
  omega
theorem res_live (h : BJ W X w bt p pm pool o M C Z root E br bf v L fr false) (hl : L.length ≤ 511 * i) {u : World} (k : LVk W w X v bt p pm pool (o + 1000) M C Z root br bf L fr (fun _ => True) u) : RES W w X p pm pool o i M C Z bt br bf v u := by
  obtain ⟨C', E', L', fr', sw, rl, f, _⟩ := k
  obtain ⟨X', M', v', b, sx, ot⟩ := sw.ex
  refine ⟨X', M', C', Z, v', fr', b.ts.fw, f, ⟨fun j hj => ?_, fun j hj => (b.xs j hj).2.2, .inl ⟨root, E', L', b.ts.tx, b.ts.tg, b.ne, b.rq, rl, by have := sw.sum.2; omega⟩⟩, sx.yk bt, ot, fun Zb d => dj_live h.ts.tg.oth d⟩
  rcases hj with rfl | hj
  · exact ⟨b.ts.bw, b.ts.xb⟩
  · exact ⟨(b.xs j hj).1, (b.xs j hj).2.1⟩
theorem res_free (h : BJ W X w bt p pm pool o M C Z root E br bf v L fr false) (r : RL E L) (hfr : fr = (cnt (fT pool C) pool : Int)) {u : World} (k : GNk W w X v bt p pm pool o M C Z root br bf E L fr u) : RES W w X p pm pool o i M C Z bt br bf v u := by
  obtain ⟨M', sg, ot⟩ := k
  obtain ⟨X', v', g, sy⟩ := sg.ex
  have tg := h.ts.tg
  refine ⟨X', M', _, fun x => if x < pool then decide (offC C (tabsA root E) x ≠ 0) else Z x, v', _, g.fw.le (by omega), ?_, ⟨fun j hj => ?_, fun j hj => (g.xs j hj).2.2, .inr ⟨g.tx, g.rq, fun x hx hc => by show (if x < pool then _ else _) = true; rw [if_pos hx]; exact decide_eq_true hc⟩⟩, sy, ot, fun Zb d x hx => ?_⟩
  · rw [off_free r tg h.ne, hfr]
    omega
  · rcases hj with rfl | hj
    · exact ⟨g.bw, g.xb⟩
    · exact ⟨(g.xs j hj).1, (g.xs j hj).2.1⟩
  · obtain ⟨a, b, c⟩ := offC_ne hx
    rw [oZ_on a hx]
    show (if x < pool then _ else _) = _
    by_cases hp : x < pool
    · rw [if_pos hp, decide_eq_true hx]
      have z := off_mine tg hp hx
      have := d x a
      rw [z] at this
      exact this
    · rw [if_neg hp]
      exact d x a
theorem res_gone (h : GJ W X w bt p pm pool o M C br bf v fr) (hfr : fr = (cnt (fT pool C) pool : Int)) (hz : ∀ x, x < pool → C x ≠ 0 → Z x = true) {u : World} (k : SG9 W w X v bt p pm pool o M C br bf fr u) : RES W w X p pm pool o i M C Z bt br bf v u := by
  obtain ⟨X', v', g, sy⟩ := k.ex
  refine ⟨X', M, C, Z, v', fr, g.fw.le (by omega), hfr, ⟨fun j hj => ?_, fun j hj => (g.xs j hj).2.2, .inr ⟨g.tx, g.rq, hz⟩⟩, sy, Ot.refl _ _ _, fun Zb d => dj_same d⟩
  rcases hj with rfl | hj
  · exact ⟨g.bw, g.xb⟩
  · exact ⟨(g.xs j hj).1, (g.xs j hj).2.1⟩
/-- A step on a side. -/
theorem one_step (fw : FW W X w p pm 2100 pool o M C) (hfr : fr = (cnt (fT pool C) pool : Int)) (sd : SD W X w p pool i M C Z bt br bf v fr) (hi : i ≤ 100) (ho : o ≤ 1000000000) (hpl : pool ≤ 64)
    (kd fm sf : Int) (pg : Nat) (r q x raw : Bool) (hpg : pg < 18446744073709551616) (m : Nat) (t : Int) (k1 : kd.tmod 11 = t) (k2 : -11 < t) (k3 : t < 11) (k4 : (t + 11).tmod 11 = (m : Int)) (k5 : m < 11) :
    Calls Tryz.prog 9 #[.pointer (some ⟨bt, 0, none⟩), .pointer (some ⟨br, 0, none⟩), .agg #[.int .i64 kd, .int .i64 fm, .int .i64 sf, .int .u64 (pg : Int), .bool r, .bool q, .bool x, .bool raw]] w fun e w' => e = .returned (.bool true) ∧ RES W w X p pm pool o i M C Z bt br bf v w' := by
  have hX := fw.xlt
  have fl : cnt (fT pool C) pool ≤ pool := cnt_le _ _
  have xs : ∀ j, (j = br ∨ j = bf ∨ v.ownBlock = some j) → W.heap.size ≤ j ∧ X j ∧ j ≠ bt := fun j hj => ⟨(sd.xs j (.inr hj)).1, (sd.xs j (.inr hj)).2, sd.n1 j hj⟩
  have xb := sd.xs bt (.inl rfl)
  rcases sd.st with ⟨root, E, L, tx, tg, ne, rq, rl, hl⟩ | ⟨tx, rq, hz⟩
  · have bj : BJ W X w bt p pm pool o M C Z root E br bf v L fr false := ⟨⟨fw, tx, xb.2, xb.1, tg⟩, ne, rq, xs⟩
    refine gstep kd fm sf pg r q x raw hpg m t k1 k2 k3 k4 k5 fun b9 p3 f3 s R Q Y hp hb9 => ?_
    by_cases c : m = 10 ∧ bits .and .i64 fm 15 = 0
    · exact ⟨_, _, _, _, _, _, free_swc bj (by omega) (by omega) hX b9 p3 f3 s R Q Y hp m fm c.1 c.2 fun u k => res_free bj rl hfr k⟩
    · exact ⟨_, _, _, _, _, _, live_swc bj rl hfr (by omega) (by omega) (by omega) hX b9 p3 f3 s R Q Y hp hb9 m fm c fun u k => res_live bj hl k⟩
  · have gj : GJ W X w bt p pm pool o M C br bf v fr := ⟨fw, tx, xb.2, xb.1, rq, xs⟩
    refine (gstep kd fm sf pg r q x raw hpg m t k1 k2 k3 k4 k5 fun b9 p3 f3 s R Q Y hp hb9 => ⟨_, _, _, _, _, _, gone_swc gj hX (by omega) b9 p3 f3 s R Q Y hp hb9 m fm⟩).mono ?_
    rintro e u ⟨e1, k⟩
    exact ⟨e1, res_gone gj hfr hz k⟩
end

end Go.Proofs.YtanlcmdnhhdhaaaGreatDoor
