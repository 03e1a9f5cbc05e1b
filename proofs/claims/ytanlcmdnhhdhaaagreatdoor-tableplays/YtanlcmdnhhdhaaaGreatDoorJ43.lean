/- Joined: R7B, R7C. -/
import Derived.Test.YtanlcmdnhhdhaaaGreatDoorJ40
import Derived.Test.YtanlcmdnhhdhaaaGreatDoorJ42
import Derived.Test.YtanlcmdnhhdhaaaGreatDoorJ25
/- TablePlays: a table that is gone, and a step on it. -/
namespace Go.Proofs.YtanlcmdnhhdhaaaGreatDoor
open Go.RowKit
set_option maxRecDepth 10000

/-- What a step on a side leaves of others' blocks. -/
structure SYk (w0 w : World) (X0 X : Nat → Prop) (bt br bf : Nat) (v0 v : Value) : Prop where
  wide : ∀ i, X0 i → X i
  new : ∀ i, X i → X0 i ∨ w0.heap.size ≤ i
  keep : ∀ i, X0 i → i ≠ bt → i ≠ br → i ≠ bf → v0.ownBlock ≠ some i → w.heap[i]? = w0.heap[i]?
  own : ∀ b, v.ownBlock = some b → v0.ownBlock = some b ∨ w0.heap.size ≤ b
  size : w0.heap.size ≤ w.heap.size
  lim : ∀ i, X0 i → i < w0.heap.size
section
variable {w0 w1 w2 w w' : World} {X0 X1 X2 X : Nat → Prop} {bt br bf : Nat} {v0 v1 v2 v : Value}
theorem SXk.yk (h : SXk w0 w X0 X br bf v0 v) (bt : Nat) : SYk w0 w X0 X bt br bf v0 v := ⟨h.wide, h.new, fun i hi _ => h.keep i hi, h.own, h.size, h.lim⟩
theorem SYk.refl (bt : Nat) (h : ∀ i, X i → i < w.heap.size) : SYk w w X X bt br bf v v := (SXk.refl h).yk bt
theorem SYk.kp (h : SYk w0 w X0 X bt br bf v0 v) (k : Kp w w') : SYk w0 w' X0 X bt br bf v0 v := ⟨h.wide, h.new, fun i hi n0 n1 n2 n3 => (k.block i (Nat.lt_of_lt_of_le (h.lim i hi) h.size)).trans (h.keep i hi n0 n1 n2 n3), h.own, Nat.le_trans h.size k.size, h.lim⟩
end
theorem FW.wide {W w w' : World} {X X' Y : Nat → Prop} {p pm N pool o : Nat} {M : Nat → Nat → Nat} {C : Nat → Nat} (h : FW W X w p pm N pool o M C) (k : Fr Y w w') (hY : ∀ i, Y i → W.heap.size ≤ i ∧ X i) (hX : ∀ i, X' i → X i ∨ (w.heap.size ≤ i ∧ i < w'.heap.size)) : FW W X' w' p pm N pool o M C := by
  have h' := h.frX k hY
  obtain ⟨ops, B, h1, h2, S, f⟩ := h
  have t0 := f.t0
  exact ⟨ops, B, h1, h2, S, f.fs.fr k (fun i hi c => (f.out i hi).2 (hY i c).2) (fun c => by have := (hY _ c).1; omega), h'.kp, fun i hi => ⟨(f.out i hi).1, fun c => (hX i c).elim (f.out i hi).2 (fun c => by have := f.fs.own i hi; omega)⟩, fun i hi => (hX i hi).elim (fun hi => Nat.lt_of_lt_of_le (f.lt i hi) k.size) (fun c => c.2), f.t0⟩
/-- A side that is gone. -/
structure GJ (W : World) (X : Nat → Prop) (w : World) (bt p pm pool o : Nat) (M : Nat → Nat → Nat) (C : Nat → Nat) (br bf : Nat) (v : Value) (fr : Int) : Prop where
  fw : FW W X w p pm 2100 pool o M C
  tx : TXn w bt
  xb : X bt
  bw : W.heap.size ≤ bt
  rq : RQ w br bf v [] fr true
  xs : ∀ i, (i = br ∨ i = bf ∨ v.ownBlock = some i) → W.heap.size ≤ i ∧ X i ∧ i ≠ bt
section
variable {W w0 w w' : World} {X X0 : Nat → Prop} {bt p pm pool o o' : Nat} {M : Nat → Nat → Nat} {C : Nat → Nat} {br bf : Nat} {v v0 : Value} {fr : Int}
theorem GJ.kps (h : GJ W X w bt p pm pool o M C br bf v fr) (k : Kp w w') : GJ W X w' bt p pm pool o M C br bf v fr := ⟨h.fw.kps k, h.tx.kp k, h.xb, h.bw, h.rq.kp k, h.xs⟩
theorem GJ.le (h : GJ W X w bt p pm pool o M C br bf v fr) (ho : o ≤ o') : GJ W X w bt p pm pool o' M C br bf v fr := ⟨h.fw.le ho, h.tx, h.xb, h.bw, h.rq, h.xs⟩
end
/-- .. a step under way since w0. -/
structure SG9 (W w0 : World) (X0 : Nat → Prop) (v0 : Value) (bt p pm pool o : Nat) (M : Nat → Nat → Nat) (C : Nat → Nat) (br bf : Nat) (fr : Int) (w : World) : Prop where
  ex : ∃ X v, GJ W X w bt p pm pool o M C br bf v fr ∧ SYk w0 w X0 X bt br bf v0 v
section
variable {W w0 w w' : World} {X0 : Nat → Prop} {bt p pm pool o o' : Nat} {M : Nat → Nat → Nat} {C : Nat → Nat} {br bf : Nat} {v0 : Value} {fr : Int}
theorem SG9.kp (h : SG9 W w0 X0 v0 bt p pm pool o M C br bf fr w) (k : Kp w w') : SG9 W w0 X0 v0 bt p pm pool o M C br bf fr w' := by
  obtain ⟨X, v, h1, h2⟩ := h.ex
  exact ⟨X, v, h1.kps k, h2.kp k⟩
theorem SG9.tx (h : SG9 W w0 X0 v0 bt p pm pool o M C br bf fr w) : TXn w bt := by
  obtain ⟨X, v, h1, h2⟩ := h.ex
  exact h1.tx
/-- The document's own step on what is gone. -/
theorem gj_rn {X : Nat → Prop} {v : Value} {gone : Bool} {L : List LV} {fq : Int} (hx : ∀ i, (i = br ∨ i = bf ∨ v.ownBlock = some i) → W.heap.size ≤ i ∧ X i ∧ i ≠ bt) (fw : FW W X w p pm 2100 pool o M C) (tx : TXn w bt) (xb : X bt) (bw : W.heap.size ≤ bt) (h2 : SYk w0 w X0 X bt br bf v0 v) (r : RN w w' br bf v [] fr true) (_rq : RQ w br bf v L fq gone) : SG9 W w0 X0 v0 bt p pm pool o M C br bf fr w' := by
  obtain ⟨v', a1, a2, a3⟩ := r
  have hb : ∀ b, v'.ownBlock = some b → b < w'.heap.size := fun b hb => by
    obtain ⟨na, cap, e, _, hc⟩ := OL.form a1.ol
    rcases hc with ⟨rfl, rfl, _⟩ | ⟨g, rfl, hg⟩
    · rw [e] at hb; cases hb
    · rw [e] at hb; cases hb; exact hg
  refine ⟨fun i => X i ∨ v'.ownBlock = some i, v', ⟨fw.wide a2 (fun i hi => ⟨(hx i hi).1, (hx i hi).2.1⟩) (fun i hi => ?_), tx.fr a2 (fun c => (hx bt c).2.2 rfl), .inl xb, bw, a1, fun i hi => ?_⟩, ⟨fun i hi => .inl (h2.wide i hi), fun i hi => ?_, fun i hi n0 n1 n2 n3 => ?_, fun c hc => ?_, Nat.le_trans h2.size a2.size, h2.lim⟩⟩
  · rcases hi with hi | hi
    · exact .inl hi
    · rcases a3 i hi with c | c
      · exact .inl (hx i (.inr (.inr c))).2.1
      · exact .inr ⟨c, hb i hi⟩
  · rcases hi with hi | hi | hi
    · obtain ⟨b1, b2, b3⟩ := hx i (.inl hi); exact ⟨b1, .inl b2, b3⟩
    · obtain ⟨b1, b2, b3⟩ := hx i (.inr (.inl hi)); exact ⟨b1, .inl b2, b3⟩
    · rcases a3 i hi with c | c
      · obtain ⟨b1, b2, b3⟩ := hx i (.inr (.inr c)); exact ⟨b1, .inl b2, b3⟩
      · have s1 := fw.kp.size
        have s2 := tx.lt
        exact ⟨by omega, .inr hi, by omega⟩
  · rcases hi with hi | hi
    · exact h2.new i hi
    · rcases a3 i hi with c | c
      · exact h2.new i (hx i (.inr (.inr c))).2.1
      · exact .inr (Nat.le_trans h2.size c)
  · refine (a2.block i (Nat.lt_of_lt_of_le (h2.lim i hi) h2.size) (fun c => ?_)).trans (h2.keep i hi n0 n1 n2 n3)
    rcases c with c | c | c
    · exact n1 c
    · exact n2 c
    · rcases h2.own i c with d | d
      · exact n3 d
      · have := h2.lim i hi; omega
  · rcases a3 c hc with d | d
    · exact h2.own c d
    · exact .inr (Nat.le_trans h2.size d)
end
theorem gone_map {fr : Int} {page : Nat} {f s rr : Int} {r q x : Bool} {L' : List LV} {fr' : Int} (d : DMap true [] fr page f r q x s rr L' fr') : rr = 23 ∧ L' = [] ∧ fr' = fr := by
  have e : rr = 23 := d.1.trans (by unfold rmapR; rw [if_pos rfl])
  rcases d.2 with ⟨c, _⟩ | ⟨_, c⟩
  · omega
  · exact ⟨e, c⟩
theorem gone_mapb {fr : Int} {page : Nat} {f s rr : Int} {r q x : Bool} {L' : List LV} {fr' : Int} (d : DMpb true [] fr page f r q x s rr L' fr') : rr = 23 ∧ L' = [] ∧ fr' = fr := by
  have e : rr = 23 := d.1.trans (by unfold rmapbR; rw [if_pos rfl])
  rcases d.2 with ⟨c, _⟩ | ⟨_, c⟩
  · omega
  · exact ⟨e, c⟩
theorem gone_split {fr : Int} {page : Nat} {rr : Int} {L' : List LV} {fr' : Int} (d : DSpl true [] fr page rr L' fr') : rr = 23 ∧ L' = [] ∧ fr' = fr := by
  have e : rr = 23 := d.1.trans (by unfold rsplR; rw [if_pos (.inl rfl)])
  rcases d.2 with ⟨c, _⟩ | ⟨_, c⟩
  · omega
  · exact ⟨e, c⟩
theorem gone_unmap {fr : Int} {page fx : Nat} {rr : Int} {L' : List LV} {fr' : Int} (d : DUnm true [] fr page fx rr L' fr') : rr = 23 ∧ fx = 0 ∧ L' = [] ∧ fr' = fr := by
  have e : rr = 23 := d.1.trans (by unfold runR; rw [if_pos (.inl rfl)])
  rcases d.2 with ⟨c, _⟩ | ⟨_, c⟩
  · omega
  · exact ⟨e, c⟩
theorem gone_prot {fr : Int} {page : Nat} {s rr : Int} {r q x : Bool} {L' : List LV} {fr' : Int} (d : DPro true [] fr page r q x s rr L' fr') : rr = 23 ∧ L' = [] ∧ fr' = fr := by
  have e : rr = 23 := d.1.trans (by unfold rprR; rw [if_pos rfl])
  rcases d.2 with ⟨c, _⟩ | ⟨_, c⟩
  · omega
  · exact ⟨e, c⟩
theorem gone_join {fr : Int} {page : Nat} {rr : Int} {L' : List LV} {fr' : Int} (d : DJoi true [] fr page rr L' fr') : rr = 23 ∧ L' = [] ∧ fr' = fr := by
  rcases d with ⟨c, _, d⟩ | ⟨_, c, _⟩ | ⟨_, c, _⟩
  · exact ⟨c, d⟩
  · cases c
  · cases c
theorem gone_idle (page : Nat) : isL true [] page = false ∧ getL true [] page = lvZ ∧ needL true [] page = 0 := ⟨rfl, by unfold getL; rw [if_pos (.inl rfl)], by unfold needL; rw [if_pos (.inl rfl)]⟩
set_option maxHeartbeats 4000000 in
/-- A step on a side that is gone. -/
theorem gone_swc {W w : World} {X : Nat → Prop} {v : Value} {bt p pm pool o : Nat} {M : Nat → Nat → Nat} {C : Nat → Nat} {br bf : Nat} {fr : Int} (h : GJ W X w bt p pm pool o M C br bf v fr) (hX : ∀ i, X i → i < w.heap.size) (hf : -1000000000 ≤ fr ∧ fr ≤ 1000000000) (b9 p3 : Nat) (f3 s : Int) (R Q Y : Bool) (hp : p3 < 18446744073709551616) (hb9 : w.heap.size ≤ b9) (m : Nat) (fm : Int) :
    SWC bt br b9 p3 f3 s R Q Y m fm w (fun u => Kp w u ∧ PX u b9 R Q Y) (fun xx aa u => xx = 23 ∧ aa = 0 ∧ Kp w u ∧ PX u b9 R Q Y) (fun u => SG9 W w X v bt p pm pool o M C br bf fr u) (fun u z n u' => u = lvZ ∧ z = false ∧ n = 0 ∧ SG9 W w X v bt p pm pool o M C br bf fr u') (fun u z n u' => u = lvZ ∧ z = false ∧ n = 0 ∧ SG9 W w X v bt p pm pool o M C br bf fr u') (fun u z n u' => u = lvZ ∧ z = false ∧ n = 0 ∧ SG9 W w X v bt p pm pool o M C br bf fr u') (fun u => SG9 W w X v bt p pm pool o M C br bf fr u) := by
  have l1 := h.rq.lt
  have l2 := h.rq.ltf
  have l3 : ∀ b, v.ownBlock = some b → b < w.heap.size := fun b e => hX b (h.xs b (.inr (.inr e))).2.1
  have rnp : ∀ {u u' : World}, Kp w u → PX u b9 R Q Y → RN u u' br bf v [] fr true → SG9 W w X v bt p pm pool o M C br bf fr u' ∧ PX u' b9 R Q Y := fun {u u'} k px rn => by
    have g := h.kps k
    refine ⟨gj_rn g.xs g.fw g.tx g.xb g.bw ((SYk.refl bt hX).kp k) rn g.rq, ?_⟩
    obtain ⟨v', _, a2, _⟩ := rn
    exact px.fr a2 fun c => by
      rcases c with c | c | c
      · omega
      · omega
      · have := l3 b9 c; omega
  refine { start := fun u k px => ⟨k, px⟩, px := fun u h => h.2, kp := fun u u' h k => ⟨h.1.trans k, h.2.kp k⟩, map := fun _ u hu => ?_, rmap := fun _ u xx hu => ?_, mapb := fun _ u hu => ?_, rmapb := fun _ u xx hu => ?_, prot := fun _ u hu => ?_, rprot := fun _ u xx hu => ?_, split := fun _ u hu => ?_, rsplit := fun _ u xx hu => ?_, join := fun _ u hu => ?_, rjoin := fun _ u xx hu => ?_, free := fun _ _ u hu => ?_, rfree := fun _ _ u xx hu => ?_, unmap := fun _ u hu => ?_, runmap := fun _ u xx fx hu => ?_, idle := fun _ u hu => ⟨X, v, h.kps hu.1, (SYk.refl bt hX).kp hu.1⟩, get := fun u hu => ?_, k1 := fun u z n a b hu k => ⟨hu.1, hu.2.1, hu.2.2.1, hu.2.2.2.kp k⟩, rget := fun u z n a hu => ?_, k2 := fun u z n a b hu k => ⟨hu.1, hu.2.1, hu.2.2.1, hu.2.2.2.kp k⟩, need := fun u z n a hu => ?_, rneed := fun u z n a hu => ?_ }
  · refine (map_gone (h.kps hu.1).tx p3 f3 R Q Y s).mono ?_
    rintro e u' ⟨e1, k⟩
    exact ⟨23, e1, ⟨rfl, rfl, hu.1.trans k, hu.2.kp k⟩, hu.2.kp k⟩
  · refine (dmap_any (h.kps hu.2.2.1).rq (by simp) p3 hp f3 R Q Y s hf).mono ?_
    rintro e u' ⟨rr, L', fr', e1, rn, d, _⟩
    obtain ⟨d1, rfl, rfl⟩ := gone_map d
    have := rnp hu.2.2.1 hu.2.2.2 rn
    exact ⟨by rw [e1, d1, hu.1], this.1, this.2⟩
  · refine (mapb_gone (h.kps hu.1).tx p3 f3 R Q Y s).mono ?_
    rintro e u' ⟨e1, k⟩
    exact ⟨23, e1, ⟨rfl, rfl, hu.1.trans k, hu.2.kp k⟩, hu.2.kp k⟩
  · refine (dmapb_any (h.kps hu.2.2.1).rq (by simp) p3 f3 R Q Y s hf).mono ?_
    rintro e u' ⟨rr, L', fr', e1, rn, d, _⟩
    obtain ⟨d1, rfl, rfl⟩ := gone_mapb d
    have := rnp hu.2.2.1 hu.2.2.2 rn
    exact ⟨by rw [e1, d1, hu.1], this.1, this.2⟩
  · refine (protect_gone (h.kps hu.1).tx p3 R Q Y s).mono ?_
    rintro e u' ⟨e1, k⟩
    exact ⟨23, e1, ⟨rfl, rfl, hu.1.trans k, hu.2.kp k⟩, hu.2.kp k⟩
  · refine (dprot_any (h.kps hu.2.2.1).rq (by simp) p3 hp R Q Y s hf).mono ?_
    rintro e u' ⟨rr, L', fr', e1, rn, d, _⟩
    obtain ⟨d1, rfl, rfl⟩ := gone_prot d
    have := rnp hu.2.2.1 hu.2.2.2 rn
    exact ⟨by rw [e1, d1, hu.1], this.1, this.2⟩
  · refine (split_nw (.inl (h.kps hu.1).tx)).mono ?_
    rintro e u' ⟨e1, rfl⟩
    exact ⟨23, e1, rfl, rfl, hu⟩
  · refine (dsplit_any (h.kps hu.2.2.1).rq (by simp) p3 hp hf).mono ?_
    rintro e u' ⟨rr, L', fr', e1, rn, d, _⟩
    obtain ⟨d1, rfl, rfl⟩ := gone_split d
    exact ⟨by rw [e1, d1, hu.1], (rnp hu.2.2.1 hu.2.2.2 rn).1⟩
  · refine (join_nw (.inl (h.kps hu.1).tx)).mono ?_
    rintro e u' ⟨e1, rfl⟩
    exact ⟨23, e1, rfl, rfl, hu⟩
  · refine (djoin_any (h.kps hu.2.2.1).rq (by simp) p3 hp hf).mono ?_
    rintro e u' ⟨rr, L', fr', e1, rn, d, _⟩
    obtain ⟨d1, rfl, rfl⟩ := gone_join d
    exact ⟨by rw [e1, d1, hu.1], (rnp hu.2.2.1 hu.2.2.2 rn).1⟩
  · refine (free_gone (h.kps hu.1).tx).mono ?_
    rintro e u' ⟨e1, rfl⟩
    exact ⟨23, e1, rfl, rfl, hu⟩
  · refine (rdrop_any (h.kps hu.2.2.1).rq (by simp) hf 23 rfl).mono ?_
    rintro e u' ⟨e1, e2⟩
    exact ⟨by rw [e1, hu.1], (rnp hu.2.2.1 hu.2.2.2 (e2.out.2 (by decide))).1⟩
  · refine (unmap_nw (.inl (h.kps hu.1).tx)).mono ?_
    rintro e u' ⟨e1, rfl⟩
    exact ⟨0, 23, e1, rfl, rfl, hu⟩
  · refine (dunmap_any (h.kps hu.2.2.1).rq (by simp) p3 hp hf).mono ?_
    rintro e u' ⟨fy, rr, e1, L', fr', rn, d, _⟩
    obtain ⟨d1, rfl, rfl, rfl⟩ := gone_unmap d
    exact ⟨by rw [e1, d1, hu.1, hu.2.1]; rfl, (rnp hu.2.2.1 hu.2.2.2 rn).1⟩
  · exact ⟨lvZ, false, 0, (get_no (.inl hu.tx)).mono fun e u' ⟨e1, k⟩ => ⟨e1, rfl, rfl, rfl, hu.kp k⟩⟩
  · obtain ⟨rfl, rfl, rfl, hu⟩ := hu
    obtain ⟨X', v', g, _⟩ := hu.ex
    refine (rget_any g.rq (by simp) p3 hp).mono ?_
    rintro e u' ⟨e1, k⟩
    have i := gone_idle p3
    rw [i.1, i.2.1] at e1
    exact ⟨e1, ⟨rfl, rfl, rfl, hu.kp k⟩, k⟩
  · obtain ⟨rfl, rfl, rfl, hu⟩ := hu
    exact (need_no (.inl hu.tx)).mono fun e u' ⟨e1, e2⟩ => ⟨e1, rfl, rfl, rfl, by rw [e2]; exact hu⟩
  · obtain ⟨rfl, rfl, rfl, hu⟩ := hu
    obtain ⟨X', v', g, _⟩ := hu.ex
    refine (rneed_any g.rq (by simp) p3 hp).mono ?_
    rintro e u' ⟨e1, k⟩
    rw [(gone_idle p3).2.2] at e1
    exact ⟨e1, hu.kp k⟩

end Go.Proofs.YtanlcmdnhhdhaaaGreatDoor

/- TablePlays: a step on a side that is there. -/
namespace Go.Proofs.YtanlcmdnhhdhaaaGreatDoor
open Go.RowKit
set_option maxRecDepth 10000

/-- What the document's call of a kind says. -/
structure DDm (m : Nat) (L : List LV) (fr : Int) (p3 : Nat) (f3 s : Int) (R Q Y : Bool) (yy bb : Int) (L' : List LV) (fr' : Int) : Prop where
  map : m < 3 → bb = 0 ∧ DMap false L fr p3 f3 R Q Y s yy L' fr'
  mapb : m = 3 → bb = 0 ∧ DMpb false L fr p3 f3 R Q Y s yy L' fr'
  unmap : (m = 4 ∨ m = 5) → ∃ fy : Nat, bb = (fy : Int) ∧ DUnm false L fr p3 fy yy L' fr'
  prot : m = 6 → bb = 0 ∧ DPro false L fr p3 R Q Y s yy L' fr'
  split : m = 7 → bb = 0 ∧ DSpl false L fr p3 yy L' fr'
  join : m = 8 → bb = 0 ∧ DJoi false L fr p3 yy L' fr'
/-- Behind the step: the side is there, and both tell the same. -/
def LVk (W w0 : World) (X0 : Nat → Prop) (v0 : Value) (bt p pm pool o : Nat) (M0 : Nat → Nat → Nat) (C0 : Nat → Nat) (Z : Nat → Bool) (root br bf : Nat) (L0 : List LV) (fr0 : Int) (P : (Nat → Nat → DV) → Prop) (w : World) : Prop :=
  ∃ C E L fr, SWk W w0 X0 v0 bt p pm pool o M0 C0 Z root br bf L0 fr0 w C E L fr ∧ RL E L ∧ fr = (cnt (fT pool C) pool : Int) ∧ P E
/-- .. it is gone. -/
def GNk (W w0 : World) (X0 : Nat → Prop) (v0 : Value) (bt p pm pool o : Nat) (M0 : Nat → Nat → Nat) (C0 : Nat → Nat) (Z : Nat → Bool) (root br bf : Nat) (E : Nat → Nat → DV) (L0 : List LV) (fr0 : Int) (w : World) : Prop :=
  ∃ M, SG9 W w0 X0 v0 bt p pm pool o M (offC C0 (tabsA root E)) br bf (fr0 + (1 + (tabL L0 : Int))) w ∧ Ot Z M0 C0 M (offC C0 (tabsA root E))
section
variable {W w0 w w' : World} {X0 X : Nat → Prop} {v0 v : Value} {bt p pm pool o o' : Nat} {M0 M : Nat → Nat → Nat} {C0 C : Nat → Nat} {Z : Nat → Bool} {root br bf : Nat} {E : Nat → Nat → DV} {L0 L : List LV} {fr0 fr : Int} {P : (Nat → Nat → DV) → Prop}
theorem LVk.kp (h : LVk W w0 X0 v0 bt p pm pool o M0 C0 Z root br bf L0 fr0 P w) (k : Kp w w') : LVk W w0 X0 v0 bt p pm pool o M0 C0 Z root br bf L0 fr0 P w' := by
  obtain ⟨C, E, L, fr, h1, h2⟩ := h
  exact ⟨C, E, L, fr, h1.kp k, h2⟩
theorem GNk.kp (h : GNk W w0 X0 v0 bt p pm pool o M0 C0 Z root br bf E L0 fr0 w) (k : Kp w w') : GNk W w0 X0 v0 bt p pm pool o M0 C0 Z root br bf E L0 fr0 w' := by
  obtain ⟨M, h1, h2⟩ := h
  exact ⟨M, h1.kp k, h2⟩
theorem GNk.tx (h : GNk W w0 X0 v0 bt p pm pool o M0 C0 Z root br bf E L0 fr0 w) : TXn w bt := by
  obtain ⟨M, h1, h2⟩ := h
  exact h1.tx
end
section
variable {W w : World} {X : Nat → Prop} {v : Value} {bt p pm pool o : Nat} {M : Nat → Nat → Nat} {C : Nat → Nat} {Z : Nat → Bool} {root br bf : Nat} {E : Nat → Nat → DV} {L : List LV} {fr : Int}
/-- The document's call tells what the program's told. -/
theorem both_told (h : BJ W X w bt p pm pool o M C Z root E br bf v L fr false) (r : RL E L) (hfr : fr = (cnt (fT pool C) pool : Int)) {u : World} {C' : Nat → Nat} {E' : Nat → Nat → DV} {L' : List LV} {fr' xx yy aa bb : Int} (s : SWk W w X v bt p pm pool (o + 600) M C Z root br bf L fr u C' E' L' fr') (sr : SR pool Z root C E L fr C' E' L' fr' xx yy aa bb) : xx = yy ∧ aa = bb ∧ LVk W w X v bt p pm pool (o + 600) M C Z root br bf L fr (fun _ => True) u := by
  obtain ⟨X', M', v', b, _⟩ := s.ex
  have k := SR.both r h.ts.tg h.ne b.ts.tg b.ne hfr sr s.sum
  exact ⟨k.1, k.2.1, C', E', L', fr', s, k.2.2.1, k.2.2.2, trivial⟩
set_option maxHeartbeats 8000000 in
theorem live_swc (h : BJ W X w bt p pm pool o M C Z root E br bf v L fr false) (r : RL E L) (hfr : fr = (cnt (fT pool C) pool : Int)) (hl : L.length ≤ 800000) (hf : fr ≤ 1000000000) (ho : o < 100000000000000000) (hX : ∀ i, X i → i < w.heap.size) (b9 p3 : Nat) (f3 s : Int) (R Q Y : Bool) (hp : p3 < 18446744073709551616) (hb9 : w.heap.size ≤ b9) (m : Nat) (fm : Int) (hm : ¬ (m = 10 ∧ bits .and .i64 fm 15 = 0)) {JE : World → Prop} (hJ : ∀ u, LVk W w X v bt p pm pool (o + 1000) M C Z root br bf L fr (fun _ => True) u → JE u) :
    SWC bt br b9 p3 f3 s R Q Y m fm w (fun u => Kp w u ∧ PX u b9 R Q Y) (fun xx aa u => ∃ C' E', SB9 W w X v bt p pm pool (o + 600) M C Z root br bf L fr b9 R Q Y u C' E' ∧ ∀ yy bb L' fr', DDm m L fr p3 f3 s R Q Y yy bb L' fr' → SR pool Z root C E L fr C' E' L' fr' xx yy aa bb)
      (LVk W w X v bt p pm pool (o + 600) M C Z root br bf L fr (fun _ => True)) (fun y z n => LVk W w X v bt p pm pool (o + 604) M C Z root br bf L fr (fun E => y = getP E p3 ∧ z = isP E p3 ∧ n = (needP E p3 : Int))) (fun y z n => LVk W w X v bt p pm pool (o + 604) M C Z root br bf L fr (fun E => y = getP E p3 ∧ z = isP E p3 ∧ n = (needP E p3 : Int))) (fun y z n => LVk W w X v bt p pm pool (o + 608) M C Z root br bf L fr (fun E => y = getP E p3 ∧ z = isP E p3 ∧ n = (needP E p3 : Int))) JE := by
  have f0 : -1000000000 ≤ fr ∧ fr ≤ 1000000000 := ⟨by omega, hf⟩
  have sb : ∀ u, Kp w u ∧ PX u b9 R Q Y → SB9 W w X v bt p pm pool o M C Z root br bf L fr b9 R Q Y u C E := fun u hu => h.sb hX hu.1 hb9 hu.2
  have ho' : o < 1000000000000000000 := by omega
  refine { start := fun u k px => ⟨k, px⟩, px := fun u h => h.2, kp := fun u u' h k => ⟨h.1.trans k, h.2.kp k⟩, map := fun m0 u hu => ?_, rmap := fun m0 u xx hu => ?_, mapb := fun m0 u hu => ?_, rmapb := fun m0 u xx hu => ?_, prot := fun m0 u hu => ?_, rprot := fun m0 u xx hu => ?_, split := fun m0 u hu => ?_, rsplit := fun m0 u xx hu => ?_, join := fun m0 u hu => ?_, rjoin := fun m0 u xx hu => ?_, free := fun m0 m1 => absurd ⟨m0, m1⟩ hm, rfree := fun m0 m1 => absurd ⟨m0, m1⟩ hm, unmap := fun m0 u hu => ?_, runmap := fun m0 u xx fx hu => ?_, idle := fun _ u hu => ?_, get := fun u hu => ?_, k1 := fun u z n a b hu k => hu.kp k, rget := fun u z n a hu => ?_, k2 := fun u z n a b hu k => hu.kp k, need := fun u z n a hu => ?_, rneed := fun u z n a hu => ?_ }
  · refine (sb_map (sb u hu) p3 f3 s ho').mono ?_
    rintro e u' ⟨xx, e1, C', E', s4, hx, hp2⟩
    exact ⟨xx, e1, ⟨C', E', s4, fun yy bb L' fr' d => ⟨p3, f3, R, Q, Y, s, hp, .inl ⟨hx, hp2, (d.map m0).2, rfl, (d.map m0).1⟩⟩⟩, s4.px⟩
  · obtain ⟨C', E', s4, imp⟩ := hu
    refine (sb_dmap s4 p3 hp f3 s (by omega) f0).mono ?_
    rintro e u' ⟨yy, e1, L', fr', sw, d, p5⟩
    have t := both_told h r hfr sw (imp yy 0 L' fr' ⟨fun c => ⟨rfl, d⟩, fun c => (by omega), fun c => (by omega), fun c => (by omega), fun c => (by omega), fun c => (by omega)⟩)
    exact ⟨by rw [e1, t.1], t.2.2, p5⟩
  · refine (sb_mapb (sb u hu) p3 f3 s ho').mono ?_
    rintro e u' ⟨xx, e1, C', E', s4, hx, hp2⟩
    exact ⟨xx, e1, ⟨C', E', s4, fun yy bb L' fr' d => ⟨p3, f3, R, Q, Y, s, hp, .inr (.inl ⟨hx, hp2, (d.mapb m0).2, rfl, (d.mapb m0).1⟩)⟩⟩, s4.px⟩
  · obtain ⟨C', E', s4, imp⟩ := hu
    refine (sb_dmapb s4 p3 f3 s (by omega) f0).mono ?_
    rintro e u' ⟨yy, e1, L', fr', sw, d, p5⟩
    have t := both_told h r hfr sw (imp yy 0 L' fr' ⟨fun c => (by omega), fun c => ⟨rfl, d⟩, fun c => (by omega), fun c => (by omega), fun c => (by omega), fun c => (by omega)⟩)
    exact ⟨by rw [e1, t.1], t.2.2, p5⟩
  · refine (sb_prot (sb u hu) p3 s ho').mono ?_
    rintro e u' ⟨xx, e1, C', E', s4, hx, hp2⟩
    exact ⟨xx, e1, ⟨C', E', s4, fun yy bb L' fr' d => ⟨p3, f3, R, Q, Y, s, hp, .inr (.inr (.inr (.inl ⟨hx, hp2, (d.prot m0).2, rfl, (d.prot m0).1⟩)))⟩⟩, s4.px⟩
  · obtain ⟨C', E', s4, imp⟩ := hu
    refine (sb_dprot s4 p3 hp s (by omega) f0).mono ?_
    rintro e u' ⟨yy, e1, L', fr', sw, d, p5⟩
    have t := both_told h r hfr sw (imp yy 0 L' fr' ⟨fun c => (by omega), fun c => (by omega), fun c => (by omega), fun c => ⟨rfl, d⟩, fun c => (by omega), fun c => (by omega)⟩)
    exact ⟨by rw [e1, t.1], t.2.2, p5⟩
  · refine (sb_split (sb u hu) p3 ho').mono ?_
    rintro e u' ⟨xx, e1, C', E', s4, hx, hp2⟩
    exact ⟨xx, e1, ⟨C', E', s4, fun yy bb L' fr' d => ⟨p3, f3, R, Q, Y, s, hp, .inr (.inr (.inr (.inr (.inl ⟨hx, hp2, (d.split m0).2, rfl, (d.split m0).1⟩))))⟩⟩⟩
  · obtain ⟨C', E', s4, imp⟩ := hu
    refine (sb_dsplit s4 p3 hp (by omega) f0).mono ?_
    rintro e u' ⟨yy, e1, L', fr', sw, d, p5⟩
    have t := both_told h r hfr sw (imp yy 0 L' fr' ⟨fun c => (by omega), fun c => (by omega), fun c => (by omega), fun c => (by omega), fun c => ⟨rfl, d⟩, fun c => (by omega)⟩)
    exact ⟨by rw [e1, t.1], t.2.2⟩
  · refine (sb_join (sb u hu) p3 ho').mono ?_
    rintro e u' ⟨xx, e1, C', E', s4, hp2⟩
    exact ⟨xx, e1, ⟨C', E', s4, fun yy bb L' fr' d => ⟨p3, f3, R, Q, Y, s, hp, .inr (.inr (.inr (.inr (.inr (.inl ⟨hp2, (d.join m0).2, rfl, (d.join m0).1⟩)))))⟩⟩⟩
  · obtain ⟨C', E', s4, imp⟩ := hu
    refine (sb_djoin s4 p3 hp (by omega) f0).mono ?_
    rintro e u' ⟨yy, e1, L', fr', sw, d, p5⟩
    have t := both_told h r hfr sw (imp yy 0 L' fr' ⟨fun c => (by omega), fun c => (by omega), fun c => (by omega), fun c => (by omega), fun c => (by omega), fun c => ⟨rfl, d⟩⟩)
    exact ⟨by rw [e1, t.1], t.2.2⟩
  · refine (sb_unmap (sb u hu) p3 ho').mono ?_
    rintro e u' ⟨fx, xx, e1, C', E', s4, hx, hp2⟩
    refine ⟨(fx : Int), xx, e1, ⟨C', E', s4, fun yy bb L' fr' d => ?_⟩⟩
    obtain ⟨fy, e2, d⟩ := d.unmap m0
    exact ⟨p3, f3, R, Q, Y, s, hp, .inr (.inr (.inl ⟨fx, fy, rfl, e2, hx, hp2, d⟩))⟩
  · obtain ⟨C', E', s4, imp⟩ := hu
    refine (sb_dunmap s4 p3 hp (by omega) f0).mono ?_
    rintro e u' ⟨fy, yy, e1, L', fr', sw, d, p5⟩
    have t := both_told h r hfr sw (imp yy (fy : Int) L' fr' ⟨fun c => (by omega), fun c => (by omega), fun c => ⟨fy, rfl, d⟩, fun c => (by omega), fun c => (by omega), fun c => (by omega)⟩)
    exact ⟨by rw [e1, t.1, t.2.1], t.2.2⟩
  · obtain ⟨Y', M', v', h1, h2, h3, _⟩ := (sb u hu).ex
    exact ⟨C, E, L, fr, ⟨⟨Y', M', v', h1.le (by omega), h2, h3⟩, DSum.refl _ _⟩, r, hfr, trivial⟩
  · obtain ⟨C', E', L', fr', sw, rl, f, _⟩ := hu
    refine ⟨getP E' p3, isP E' p3, (needP E' p3 : Int), (sw_get sw p3 (by omega)).mono ?_⟩
    rintro e u' ⟨e1, s1⟩
    exact ⟨e1, C', E', L', fr', s1, rl, f, rfl, rfl, rfl⟩
  · obtain ⟨C', E', L', fr', sw, rl, f, rfl, rfl, q3⟩ := hu
    have sm := sw.sum.2
    obtain ⟨X', M', v', b, _⟩ := sw.ex
    refine (sw_dget sw p3 hp (by omega)).mono ?_
    rintro e u' ⟨e1, s1, k⟩
    rw [← both_get rl b.ts.tg p3, ← both_is rl b.ts.tg p3] at e1
    exact ⟨e1, ⟨C', E', L', fr', s1, rl, f, rfl, rfl, q3⟩, k⟩
  · obtain ⟨C', E', L', fr', sw, rl, f, q1, q2, rfl⟩ := hu
    refine (sw_need sw p3 (by omega)).mono ?_
    rintro e u' ⟨e1, s1⟩
    exact ⟨e1, C', E', L', fr', s1, rl, f, q1, q2, rfl⟩
  · obtain ⟨C', E', L', fr', sw, rl, f, q1, q2, rfl⟩ := hu
    have sm := sw.sum.2
    obtain ⟨X', M', v', b, _⟩ := sw.ex
    refine (sw_dneed sw p3 hp (by omega)).mono ?_
    rintro e u' ⟨e1, s1, k⟩
    rw [← both_need rl b.ts.tg b.ne p3] at e1
    exact ⟨e1, hJ _ ⟨C', E', L', fr', s1.le (by omega), rl, f, trivial⟩⟩
set_option maxHeartbeats 8000000 in
/-- Free: the side is gone. -/
theorem free_swc (h : BJ W X w bt p pm pool o M C Z root E br bf v L fr false) (hl : L.length ≤ 800000) (hf : -100000000 ≤ fr ∧ fr ≤ 100000000) (hX : ∀ i, X i → i < w.heap.size) (b9 p3 : Nat) (f3 s : Int) (R Q Y : Bool) (hp : p3 < 18446744073709551616) (m : Nat) (fm : Int) (hm : m = 10) (hz : bits .and .i64 fm 15 = 0) {JE : World → Prop} (hJ : ∀ u, GNk W w X v bt p pm pool o M C Z root br bf E L fr u → JE u) :
    SWC bt br b9 p3 f3 s R Q Y m fm w (fun u => Kp w u ∧ PX u b9 R Q Y) (fun xx aa u => xx = 0 ∧ aa = 0 ∧ ∃ M', FW W X u p pm 2100 pool o M' (offC C (tabsA root E)) ∧ Ot Z M C M' (offC C (tabsA root E)) ∧ TXn u bt ∧ RQ u br bf v L fr false ∧ SYk w u X X bt br bf v v) (GNk W w X v bt p pm pool o M C Z root br bf E L fr) (fun y z n u => y = lvZ ∧ z = false ∧ n = 0 ∧ GNk W w X v bt p pm pool o M C Z root br bf E L fr u) (fun y z n u => y = lvZ ∧ z = false ∧ n = 0 ∧ GNk W w X v bt p pm pool o M C Z root br bf E L fr u) (fun y z n u => y = lvZ ∧ z = false ∧ n = 0 ∧ GNk W w X v bt p pm pool o M C Z root br bf E L fr u) JE := by
  refine { start := fun u k px => ⟨k, px⟩, px := fun u h => h.2, kp := fun u u' h k => ⟨h.1.trans k, h.2.kp k⟩, map := fun m0 => by omega, rmap := fun m0 => by omega, mapb := fun m0 => by omega, rmapb := fun m0 => by omega, prot := fun m0 => by omega, rprot := fun m0 => by omega, split := fun m0 => by omega, rsplit := fun m0 => by omega, join := fun m0 => by omega, rjoin := fun m0 => by omega, free := fun _ _ u hu => ?_, rfree := fun _ _ u xx hu => ?_, unmap := fun m0 => by omega, runmap := fun m0 => by omega, idle := fun c => ?_, get := fun u hu => ?_, k1 := fun u z n a b hu k => ⟨hu.1, hu.2.1, hu.2.2.1, hu.2.2.2.kp k⟩, rget := fun u z n a hu => ?_, k2 := fun u z n a b hu k => ⟨hu.1, hu.2.1, hu.2.2.1, hu.2.2.2.kp k⟩, need := fun u z n a hu => ?_, rneed := fun u z n a hu => ?_ }
  · refine (tfree_any (h.ts.kps hu.1)).mono ?_
    rintro e u' ⟨e1, ⟨M', fw, ot⟩, tx, f⟩
    have nb : ∀ i, X i → i ≠ bt → ¬ (Out W X i ∨ i = bt) := fun i hi n c => c.elim (fun c => c.2 hi) n
    have x1 := h.xs br (.inl rfl)
    have x2 := h.xs bf (.inr (.inl rfl))
    refine ⟨0, e1, rfl, rfl, M', fw, ot, tx, (h.rq.kp hu.1).fr f (nb br x1.2.1 x1.2.2) (nb bf x2.2.1 x2.2.2) (fun b hb => nb b (h.xs b (.inr (.inr hb))).2.1 (h.xs b (.inr (.inr hb))).2.2), ?_⟩
    exact ⟨fun _ => id, fun _ => .inl, fun i hi n0 _ _ _ => (f.block i (Nat.lt_of_lt_of_le (hX i hi) hu.1.size) (nb i hi n0)).trans (hu.1.block i (hX i hi)), fun _ => .inl, Nat.le_trans hu.1.size f.size, hX⟩
  · obtain ⟨rfl, _, M', fw, ot, tx, rq, sy⟩ := hu
    refine (rdrop_any rq (by omega) (by omega) 0 rfl).mono ?_
    rintro e u' ⟨e1, e2⟩
    exact ⟨e1, M', gj_rn h.xs fw tx h.ts.xb h.ts.bw sy (e2.out.1 rfl).2 rq, ot⟩
  · exfalso
    rcases c with c | c
    · omega
    · exact c.2 hz
  · exact ⟨lvZ, false, 0, (get_no (.inl hu.tx)).mono fun e u' ⟨e1, k⟩ => ⟨e1, rfl, rfl, rfl, hu.kp k⟩⟩
  · obtain ⟨rfl, rfl, rfl, hu⟩ := hu
    have hu2 := hu
    obtain ⟨M', sg, _⟩ := hu2
    obtain ⟨X', v', g, _⟩ := sg.ex
    refine (rget_any g.rq (by simp) p3 hp).mono ?_
    rintro e u' ⟨e1, k⟩
    have i := gone_idle p3
    rw [i.1, i.2.1] at e1
    exact ⟨e1, ⟨rfl, rfl, rfl, hu.kp k⟩, k⟩
  · obtain ⟨rfl, rfl, rfl, hu⟩ := hu
    exact (need_no (.inl hu.tx)).mono fun e u' ⟨e1, e2⟩ => ⟨e1, rfl, rfl, rfl, by rw [e2]; exact hu⟩
  · obtain ⟨rfl, rfl, rfl, hu⟩ := hu
    have hu2 := hu
    obtain ⟨M', sg, _⟩ := hu2
    obtain ⟨X', v', g, _⟩ := sg.ex
    refine (rneed_any g.rq (by simp) p3 hp).mono ?_
    rintro e u' ⟨e1, k⟩
    rw [(gone_idle p3).2.2] at e1
    exact ⟨e1, hJ _ (hu.kp k)⟩
end

end Go.Proofs.YtanlcmdnhhdhaaaGreatDoor
