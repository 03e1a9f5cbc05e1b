/- index: both indices beside each other. -/
import Derived.Test.YtpjlmmiceiionaaDoorCV
import Derived.Test.YtpjlmmiceiionaaDoorCZ
namespace Go.Proofs.YtpjlmmiceiionaaDoor
open Go.RowKit Go.Maps
set_option maxRecDepth 10000

section
variable {w w' : World} {X Y : Nat → Prop} {p pm ops : Nat} {F : Nat → Nat → Nat} {Sg : Nat → Option CN}
/-- What is written into blocks of X alone leaves both. -/
theorem TIx.frx (h : TIx w X p pm ops F Sg) {S : Nat → Prop} (k : Fr S w w') (hS : ∀ i, S i → X i) (hT : ¬ S 0) : TIx w' (fun i => X i ∨ (w.heap.size ≤ i ∧ i < w'.heap.size)) p pm ops F Sg := by
  obtain ⟨Sm, Sx, h1, h2, h3, h4, h5, h6, h7⟩ := h
  refine ⟨Sm, Sx, h1.fr k (fun i s c => (h5 i (hS i c)).2.1 s), h2.fr k (fun i s c => (h5 i (hS i c)).2.2 s), h3.fr k hT, h4, fun i hi => ?_, h6, h7⟩
  rcases hi with hi | hi
  · have := h5 i hi
    exact ⟨Nat.lt_of_lt_of_le this.1 k.size, this.2⟩
  · exact ⟨hi.2, fun s => by have := h1.own i s; omega, fun s => by have := h2.own i s; omega⟩
theorem TIx.frames (h : TIx w X p pm ops F Sg) :
    Calls Tryd.prog 26 #[.pointer (some ⟨pm, 0, none⟩)] w fun e w' => e = .returned (.int .i64 12) ∧ w' = w := by
  obtain ⟨Sm, Sx, h1, _⟩ := h
  exact pframes_any h1
end

/-- What a write of a word leaves of the frames. -/
def wF (F : Nat → Nat → Nat) (g o v : Nat) : Nat → Nat → Nat := if g < 12 then putFr F g (putF (F g) o 8 v) else F
/-- Both indices, since w0; the blocks of X are neither the memory's nor the program's index's. -/
structure IPX (w0 w : World) (X : Nat → Prop) (p pm r o : Nat) (F F' : Nat → Nat → Nat) (Sg Sg' : Nat → Option CN) : Prop where
  t : ∃ ops, ops ≤ o ∧ TIx w X p pm ops F Sg
  d : ∃ vf v Bs, RIx w X r F' Sg' vf v Bs
  k : Kp w0 w
  low : ∀ k, k < w0.heap.size → X k
  rb : w0.heap.size ≤ r
  tb : TAB w0
/-- Both, beside a step's row at bo. -/
def IPM (w0 w : World) (p pm r bo o : Nat) (row : Array Value) (F F' : Nat → Nat → Nat) (Sg Sg' : Nat → Option CN) : Prop := ∃ X, IPX w0 w X p pm r o F F' Sg Sg' ∧ (X bo ∧ bo ≠ r) ∧ w.heap[bo]? = some (.cells row 35 (0, 0))
section
variable {w0 w w' : World} {X : Nat → Prop} {p pm r bo o : Nat} {row : Array Value} {F F' : Nat → Nat → Nat} {Sg Sg' : Nat → Option CN}
theorem IPX.xlt (h : IPX w0 w X p pm r o F F' Sg Sg') : ∀ k, X k → k < w.heap.size := by
  obtain ⟨_, _, t⟩ := h.t
  exact fun k hk => t.xlt hk
theorem IPX.xr (h : IPX w0 w X p pm r o F F' Sg Sg') : X r := by
  obtain ⟨_, _, _, d⟩ := h.d
  exact d.xr
theorem IPX.kp (h : IPX w0 w X p pm r o F F' Sg Sg') (k : Kp w w') : IPX w0 w' (fun i => X i ∨ (w.heap.size ≤ i ∧ i < w'.heap.size)) p pm r o F F' Sg Sg' := by
  obtain ⟨ops, ho, t⟩ := h.t
  obtain ⟨vf, v, Bs, d⟩ := h.d
  exact ⟨⟨ops, ho, t.kp k⟩, ⟨vf, v, Bs, (d.kp k).more fun _ hk => .inl hk⟩, h.k.trans k, fun i hi => .inl (h.low i hi), h.rb, h.tb⟩
theorem IPX.act (h : IPX w0 w X p pm r o F F' Sg Sg') {ops o2 : Nat} {F2 : Nat → Nat → Nat} {Sg2 : Nat → Option CN} (ho : ops ≤ o2) (t : TIx w' X p pm ops F2 Sg2) (f : FrI X w w') : IPX w0 w' X p pm r o2 F2 F' Sg2 Sg' := by
  obtain ⟨vf, v, Bs, d⟩ := h.d
  exact ⟨⟨ops, ho, t⟩, ⟨vf, v, Bs, d.fri f⟩, f.up h.k h.low, h.low, h.rb, h.tb⟩
theorem IPX.doc (h : IPX w0 w X p pm r o F F' Sg Sg') {F2 : Nat → Nat → Nat} {Sg2 : Nat → Option CN} (q : RIo w w' X r F2 Sg2) : IPX w0 w' (fun i => X i ∨ (w.heap.size ≤ i ∧ i < w'.heap.size)) p pm r o F F2 Sg Sg2 := by
  obtain ⟨ops, ho, t⟩ := h.t
  obtain ⟨vf, v, Bs, d, f⟩ := q
  have hr := h.xr
  refine ⟨⟨ops, ho, t.frx f (fun i e => by rw [e]; exact hr) (fun e => ?_)⟩, ⟨vf, v, Bs, d⟩, f.kp h.k (fun i e => by rw [e]; exact h.rb), fun i hi => .inl (h.low i hi), h.rb, h.tb⟩
  have h1 := h.tb.lt
  have h2 := h.rb
  have e : 0 = r := e
  omega
theorem IPX.sg (h : IPX w0 w X p pm r o F F' Sg Sg') : ∀ i d, Sg i = some d → okC d ∧ i < 12 := by
  obtain ⟨_, _, t⟩ := h.t
  exact fun i d e => t.okS e
theorem IPM.kp (h : IPM w0 w p pm r bo o row F F' Sg Sg') (k : Kp w w') : IPM w0 w' p pm r bo o row F F' Sg Sg' := by
  obtain ⟨X, h, hb, hc⟩ := h
  exact ⟨_, h.kp k, ⟨.inl hb.1, hb.2⟩, (k.block bo (h.xlt bo hb.1)).trans hc⟩
theorem IPM.cell (h : IPM w0 w p pm r bo o row F F' Sg Sg') (j : Nat) : w.cell? ⟨bo, j, none⟩ = row[j]? := by
  obtain ⟨X, _, _, hc⟩ := h
  rw [cell_of_row w bo j _ _ _ hc]
theorem IPM.act (h : IPX w0 w X p pm r o F F' Sg Sg') (hb : X bo ∧ bo ≠ r) (hc : w.heap[bo]? = some (.cells row 35 (0, 0))) {ops o2 : Nat} {F2 : Nat → Nat → Nat} {Sg2 : Nat → Option CN} (ho : ops ≤ o2) (t : TIx w' X p pm ops F2 Sg2) (f : FrI X w w') : IPM w0 w' p pm r bo o2 row F2 F' Sg2 Sg' :=
  ⟨X, h.act ho t f, hb, (f.block bo (h.xlt bo hb.1) (fun c => c hb.1)).trans hc⟩
theorem IPM.doc (h : IPX w0 w X p pm r o F F' Sg Sg') (hb : X bo ∧ bo ≠ r) (hc : w.heap[bo]? = some (.cells row 35 (0, 0))) {F2 : Nat → Nat → Nat} {Sg2 : Nat → Option CN} (q : RIo w w' X r F2 Sg2) : IPM w0 w' p pm r bo o row F F2 Sg Sg2 := by
  refine ⟨_, h.doc q, ⟨.inl hb.1, hb.2⟩, ?_⟩
  obtain ⟨_, _, _, _, f⟩ := q
  exact (f.block bo (h.xlt bo hb.1) hb.2).trans hc

/-! ### what each call leaves -/
theorem IPM.padd (h : IPM w0 w p pm r bo o row F F' Sg Sg') (x : Int) :
    Calls Tryd.prog 8 #[.pointer (some ⟨p, 0, none⟩), .int .i64 x] w fun e w' => e = .returned (.int .i64 (addA Sg x)) ∧ IPM w0 w' p pm r bo o row F F' (addS Sg F x) Sg' := by
  obtain ⟨X, h, hb, hc⟩ := h
  obtain ⟨ops, ho, t⟩ := h.t
  exact (t.add x).mono fun _ _ ⟨e, t2, f⟩ => ⟨e, IPM.act h hb hc ho t2 f⟩
theorem IPM.pdrop (h : IPM w0 w p pm r bo o row F F' Sg Sg') (x : Int) (hx : okI x) :
    Calls Tryd.prog 10 #[.pointer (some ⟨p, 0, none⟩), .int .i64 x] w fun e w' => e = .returned (.int .i64 (dropA Sg x)) ∧ IPM w0 w' p pm r bo o row F F' (dropS Sg x) Sg' := by
  obtain ⟨X, h, hb, hc⟩ := h
  obtain ⟨ops, ho, t⟩ := h.t
  exact (t.drop x hx).mono fun _ _ ⟨e, t2, f⟩ => ⟨e, IPM.act h hb hc ho t2 f⟩
theorem IPM.radd (h : IPM w0 w p pm r bo o row F F' Sg Sg') (hS : ∀ i d, Sg' i = some d → i < 12) (x : Int) :
    Calls Tryd.prog 9 #[.pointer (some ⟨r, 0, none⟩), .int .i64 x] w fun e w' => e = .returned (.int .i64 (addA Sg' x)) ∧ IPM w0 w' p pm r bo o row F F' Sg (addS Sg' F' x) := by
  obtain ⟨X, h, hb, hc⟩ := h
  obtain ⟨vf, v, Bs, d⟩ := h.d
  exact (radd_any d h.xlt hS x).mono fun _ _ ⟨e, q⟩ => ⟨e, IPM.doc h hb hc q⟩
theorem IPM.rdrop (h : IPM w0 w p pm r bo o row F F' Sg Sg') (hS : ∀ i d, Sg' i = some d → i < 12) (x : Int) :
    Calls Tryd.prog 11 #[.pointer (some ⟨r, 0, none⟩), .int .i64 x] w fun e w' => e = .returned (.int .i64 (dropA Sg' x)) ∧ IPM w0 w' p pm r bo o row F F' Sg (dropS Sg' x) := by
  obtain ⟨X, h, hb, hc⟩ := h
  obtain ⟨vf, v, Bs, d⟩ := h.d
  exact (rdrop_any d h.xlt hS x).mono fun _ _ ⟨e, q⟩ => ⟨e, IPM.doc h hb hc q⟩
theorem IPM.pwrite (h : IPM w0 w p pm r bo o row F F' Sg Sg') (g a v : Nat) (hg : g < 16) (ha : a < 8) (hv : v < 18446744073709551616) (ho : o < 4611686018427387904) :
    Calls Tryd.prog 12 #[.pointer (some ⟨pm, 0, none⟩), .int .u64 ((g * 4096 + 8 * a : Nat) : Int), .int .i64 8, .int .u64 (v : Int)] w fun e w' => (∃ z, e = .returned (.int .i64 z)) ∧ IPM w0 w' p pm r bo (o + 1) row (wF F g (8 * a) v) F' Sg Sg' := by
  obtain ⟨X, h, hb, hc⟩ := h
  obtain ⟨ops, hops, t⟩ := h.t
  by_cases c : g < 12
  · have A0 := t.write (g * 4096 + 8 * a) 8 v (by omega) (chk_8 c (8 * a) (by omega) (by omega)) hv (by omega)
    rw [show (g * 4096 + 8 * a) / 4096 = g by omega, show (g * 4096 + 8 * a) % 4096 = 8 * a by omega] at A0
    refine A0.mono ?_
    rintro e w' ⟨rfl, t2, f⟩
    refine ⟨⟨0, rfl⟩, IPM.act h hb hc (show ops + 1 ≤ o + 1 by omega) ?_ f⟩
    unfold wF
    rw [if_pos c]; exact t2
  · have hk : chkP 12 (g * 4096 + 8 * a) ((8 : Nat) : Int) = 2 := by
      unfold chkP
      rw [if_neg (by decide), if_neg (by simp; omega), if_pos (by omega)]
    refine (t.write_no (g * 4096 + 8 * a) ((8 : Nat) : Int) 2 (v : Int) (by omega) hk (by decide)).mono ?_
    rintro e w' ⟨rfl, rfl⟩
    refine ⟨⟨2, rfl⟩, ?_⟩
    unfold wF
    rw [if_neg c]
    exact ⟨X, ⟨⟨ops, by omega, t⟩, h.d, h.k, h.low, h.rb, h.tb⟩, hb, hc⟩
theorem IPM.pget_ok (h : IPM w0 w p pm r bo o row F F' Sg Sg') (x : Nat) (hx : x < 12) :
    Calls Tryd.prog 13 #[.pointer (some ⟨pm, 0, none⟩), .int .i64 (x : Int)] w fun e w' => ∃ b, e = .returned (.tuple #[.slice (some ⟨b, 0, none⟩) 4096 4096, .int .i64 0]) ∧ BS w' b 0 4096 (F x) ∧ IPM w0 w' p pm r bo o row F F' Sg Sg' := by
  have hh := h
  obtain ⟨X, h, hb, hc⟩ := h
  obtain ⟨ops, ho, t⟩ := h.t
  exact (t.get_ok x hx).mono fun _ _ ⟨e, b, _, k⟩ => ⟨_, e, b, hh.kp k⟩
theorem IPM.pget_no (h : IPM w0 w p pm r bo o row F F' Sg Sg') (x : Int) (hx : hasF 12 x = false) :
    Calls Tryd.prog 13 #[.pointer (some ⟨pm, 0, none⟩), .int .i64 x] w fun e w' => e = .returned (.tuple #[.slice none 0 0, .int .i64 2]) ∧ IPM w0 w' p pm r bo o row F F' Sg Sg' := by
  have hh := h
  obtain ⟨X, h, hb, hc⟩ := h
  obtain ⟨ops, ho, t⟩ := h.t
  refine (t.get_no x hx).mono ?_
  rintro e w' ⟨e, rfl⟩
  exact ⟨e, hh⟩
theorem IPM.pfind (h : IPM w0 w p pm r bo o row F F' Sg Sg') {b cap : Nat} {f : Nat → Nat} (H : BS w b 0 4096 f) (hcap : 4096 ≤ cap) (notv : Int) :
    Calls Tryd.prog 14 #[.pointer (some ⟨p, 0, none⟩), .slice (some ⟨b, 0, none⟩) 4096 cap, .int .i64 notv] w fun e w' => e = .returned (.tuple #[.int .i64 (((fndR Sg 12 F f notv).getD 0 : Nat) : Int), .bool (fndR Sg 12 F f notv).isSome]) ∧ BS w' b 0 4096 f ∧ IPM w0 w' p pm r bo o row F F' Sg Sg' := by
  have hh := h
  obtain ⟨X, h, hb, hc⟩ := h
  obtain ⟨ops, ho, t⟩ := h.t
  exact (t.find H hcap notv).mono fun _ _ ⟨e, _, k⟩ => ⟨e, H.kp k, hh.kp k⟩
theorem IPM.pfind_no (h : IPM w0 w p pm r bo o row F F' Sg Sg') (na : Option Addr) (m cap : Nat) (hm : m < 4096) (notv : Int) :
    Calls Tryd.prog 14 #[.pointer (some ⟨p, 0, none⟩), .slice na m cap, .int .i64 notv] w fun e w' => e = .returned (.tuple #[.int .i64 0, .bool false]) ∧ IPM w0 w' p pm r bo o row F F' Sg Sg' :=
  (ifind_no w p na m cap hm notv).mono fun _ _ ⟨e, k⟩ => ⟨e, h.kp k⟩
theorem IPM.rfind (h : IPM w0 w p pm r bo o row F F Sg Sg) {b cap : Nat} {f : Nat → Nat} (H : BS w b 0 4096 f) (notv : Int) :
    Calls Tryd.prog 15 #[.pointer (some ⟨r, 0, none⟩), .slice (some ⟨b, 0, none⟩) 4096 cap, .int .i64 notv] w fun e w' => e = .returned (.tuple #[.int .i64 (((fndR Sg 12 F f notv).getD 0 : Nat) : Int), .bool (fndR Sg 12 F f notv).isSome]) ∧ IPM w0 w' p pm r bo o row F F Sg Sg := by
  have hh := h
  obtain ⟨X, h, hb, hc⟩ := h
  obtain ⟨ops, ho, t⟩ := h.t
  obtain ⟨vf, v, Bs, d⟩ := h.d
  refine (rfind_any d (fun i d e => (h.sg i d e).1) H t.byte notv).mono ?_
  rintro e w' ⟨e, rfl⟩
  exact ⟨e, hh⟩
theorem IPM.rfind_no (h : IPM w0 w p pm r bo o row F F' Sg Sg') (na : Option Addr) (m cap : Nat) (hm : m < 4096) (notv : Int) :
    Calls Tryd.prog 15 #[.pointer (some ⟨r, 0, none⟩), .slice na m cap, .int .i64 notv] w fun e w' => e = .returned (.tuple #[.int .i64 0, .bool false]) ∧ Kp w w' := by
  obtain ⟨X, h, hb, hc⟩ := h
  obtain ⟨vf, v, Bs, d⟩ := h.d
  refine (Go.Proofs.YtpjlmmiceiionaaDoor.rfind_no d na m cap hm notv).mono ?_
  rintro e w' ⟨e, rfl⟩
  exact ⟨e, Kp.refl _⟩
theorem IPM.pcount (h : IPM w0 w p pm r bo o row F F' Sg Sg') :
    Calls Tryd.prog 17 #[.pointer (some ⟨p, 0, none⟩)] w fun e w' => e = .returned (.int .i64 ((inL Sg).length : Int)) ∧ Kp w w' := by
  obtain ⟨X, h, hb, hc⟩ := h
  obtain ⟨ops, ho, t⟩ := h.t
  refine t.count.mono ?_
  rintro e w' ⟨⟨Ks, rfl, nd, hK⟩, rfl⟩
  exact ⟨by rw [inL_count (fun i d e => (h.sg i d e).2) nd hK], Kp.refl _⟩
theorem IPM.phas (h : IPM w0 w p pm r bo o row F F' Sg Sg') (x : Int) (hx : okI x) :
    Calls Tryd.prog 21 #[.pointer (some ⟨p, 0, none⟩), .int .i64 x] w fun e w' => e = .returned (.bool (sgI Sg x).isSome) ∧ Kp w w' := by
  obtain ⟨X, h, hb, hc⟩ := h
  obtain ⟨ops, ho, t⟩ := h.t
  refine (t.has x hx).mono ?_
  rintro e w' ⟨e, rfl⟩
  exact ⟨e, Kp.refl _⟩
theorem IPM.palike (h : IPM w0 w p pm r bo o row F F' Sg Sg') :
    Calls Tryd.prog 19 #[.pointer (some ⟨p, 0, none⟩)] w fun e w' => ∃ v L, e = .returned v ∧ GrT w' v L Sg ∧ Kp w w' := by
  obtain ⟨X, h, hb, hc⟩ := h
  obtain ⟨ops, ho, t⟩ := h.t
  exact t.alike.mono fun _ _ ⟨v, L, D, e, g1, g2, g3, _, k⟩ => ⟨v, L, e, GrT.of g1 g2 g3, k⟩
theorem IPM.ralike (h : IPM w0 w p pm r bo o row F F' Sg Sg) :
    Calls Tryd.prog 20 #[.pointer (some ⟨r, 0, none⟩)] w fun e w' => ∃ v' L', e = .returned v' ∧ GrT w' v' L' Sg ∧ Kp w w' := by
  obtain ⟨X, h, hb, hc⟩ := h
  obtain ⟨vf, vl, Bs, d⟩ := h.d
  exact (ralike_any d (fun i d e => (h.sg i d e).1)).mono fun _ _ ⟨v', L', D, e, g1, g2, g3, k⟩ => ⟨v', L', e, GrT.of g1 g2 g3, k⟩
theorem IPM.sg (h : IPM w0 w p pm r bo o row F F' Sg Sg') : ∀ i d, Sg i = some d → i < 12 := by
  obtain ⟨X, h, _⟩ := h
  exact fun i d e => (h.sg i d e).2
theorem IPM.lr (h : IPM w0 w p pm r bo o row F F' Sg Sg') : r < w.heap.size ∧ bo < w.heap.size := by
  obtain ⟨X, h, hb, _⟩ := h
  exact ⟨h.xlt r h.xr, h.xlt bo hb.1⟩
theorem IPM.more {o2 : Nat} (h : IPM w0 w p pm r bo o row F F' Sg Sg') (ho : o ≤ o2) : IPM w0 w p pm r bo o2 row F F' Sg Sg' := by
  obtain ⟨X, h, hb, hc⟩ := h
  obtain ⟨ops, h1, t⟩ := h.t
  exact ⟨X, ⟨⟨ops, Nat.le_trans h1 ho, t⟩, h.d, h.k, h.low, h.rb, h.tb⟩, hb, hc⟩
/-- The document's list, as it is read. -/
theorem IPM.list (h : IPM w0 w p pm r bo o row F F' Sg Sg') : ∃ na cap, w.cell? ⟨r, 1, none⟩ = some (.slice na (inL Sg').length cap) ∧ AS LTin w na (inL Sg') := by
  obtain ⟨X, h, hb, hc⟩ := h
  obtain ⟨vf, v, Bs, d⟩ := h.d
  obtain ⟨na, cap, rfl, _⟩ := d.ax.form LTin_ok
  exact ⟨na, cap, d.c1, d.ax.src LTin_ok⟩
end

end Go.Proofs.YtpjlmmiceiionaaDoor
