/- dirty: both logs side by side. -/
import Derived.Test.YthkkcnnlfjchaaaDoorLN
namespace Go.Proofs.YthkkcnnlfjchaaaDoor
open Go.RowKit Go.Maps
set_option maxRecDepth 10000

/-- Both logs, the program's at p (words W), the document's at r (list L), above w0; the blocks of X are others. -/
def TwS (w0 w : World) (p r : Nat) (on : Bool) (W : Nat → Nat) (on' : Bool) (L : List Nat) (o : Nat) (X : Nat → Prop) : Prop :=
  ∃ bm v K, DLg w p bm on W K ∧ RLg w r w0.heap.size on' v L ∧ Kp w0 w ∧ K.length ≤ o ∧ L.length ≤ o ∧ w0.heap.size ≤ p ∧ w0.heap.size ≤ bm ∧ w0.heap.size ≤ r ∧ p ≠ r ∧ bm ≠ r ∧ (∀ g, v.ownBlock = some g → g ≠ p ∧ g ≠ bm) ∧ ∀ g, X g → g < w.heap.size ∧ g ≠ p ∧ g ≠ bm ∧ g ≠ r ∧ v.ownBlock ≠ some g
/-- What is neither of X nor of w0 may have changed. -/
abbrev FrX (w0 : World) (X : Nat → Prop) : World → World → Prop := Fr (fun g => w0.heap.size ≤ g ∧ ¬ X g)
section
variable {w0 w w' : World} {p r o : Nat} {on on' : Bool} {W : Nat → Nat} {L : List Nat} {X : Nat → Prop}
theorem TwS.kp (h : TwS w0 w p r on W on' L o X) (k : Kp w w') : TwS w0 w' p r on W on' L o X := by
  obtain ⟨bm, v, K, d, q, kw, k1, k2, u1, u2, u3, n1, n2, n3, hx⟩ := h
  exact ⟨bm, v, K, d.kp k, q.kp k, kw.trans k, k1, k2, u1, u2, u3, n1, n2, n3, fun g hg => by have := hx g hg; exact ⟨Nat.lt_of_lt_of_le this.1 k.size, this.2⟩⟩
theorem TwS.k (h : TwS w0 w p r on W on' L o X) : Kp w0 w := by
  obtain ⟨bm, v, K, d, q, kw, _⟩ := h
  exact kw
theorem TwS.sub {Y : Nat → Prop} (h : TwS w0 w p r on W on' L o X) (hs : ∀ g, Y g → X g) : TwS w0 w p r on W on' L o Y := by
  obtain ⟨bm, v, K, d, q, kw, k1, k2, u1, u2, u3, n1, n2, n3, hx⟩ := h
  exact ⟨bm, v, K, d, q, kw, k1, k2, u1, u2, u3, n1, n2, n3, fun g hg => hx g (hs g hg)⟩
theorem TwS.le {o2 : Nat} (h : TwS w0 w p r on W on' L o X) (hs : o ≤ o2) : TwS w0 w p r on W on' L o2 X := by
  obtain ⟨bm, v, K, d, q, kw, k1, k2, u⟩ := h
  exact ⟨bm, v, K, d, q, kw, by omega, by omega, u⟩
theorem TwS.box (h : TwS w0 w p r on W on' L o (fun _ => False)) (c : Obj) : TwS w0 (w.alloc c) p r on W on' L o (· = w.heap.size) := by
  obtain ⟨bm, v, K, d, q, kw, k1, k2, u1, u2, u3, n1, n2, n3, hx⟩ := h
  have k : Kp w (w.alloc c) := (Kp.refl w).alloc c
  refine ⟨bm, v, K, d.kp k, q.kp k, kw.trans k, k1, k2, u1, u2, u3, n1, n2, n3, fun g hg => ?_⟩
  have e : g = w.heap.size := hg
  have h1 := d.lt
  have h2 := d.m.lt
  have h3 := q.lt
  refine ⟨by rw [e]; simp, by omega, by omega, by omega, fun e2 => ?_⟩
  have := (q.ax.up g e2).2
  omega
/-- Some blocks of no log's have changed. -/
theorem TwS.fr (h : TwS w0 w p r on W on' L o X) {S : Nat → Prop} (k : Fr S w w') (hS : ∀ g, S g → X g ∧ w0.heap.size ≤ g) : TwS w0 w' p r on W on' L o X := by
  obtain ⟨bm, v, K, d, q, kw, k1, k2, u1, u2, u3, n1, n2, n3, hx⟩ := h
  refine ⟨bm, v, K, d.fr k (fun s => (hx _ (hS _ s).1).2.1 rfl) (fun s => (hx _ (hS _ s).1).2.2.1 rfl), q.fr k (fun s => (hx _ (hS _ s).1).2.2.2.1 rfl) (fun g e s => (hx _ (hS _ s).1).2.2.2.2 e), k.kp kw (fun i hi => (hS i hi).2), k1, k2, u1, u2, u3, n1, n2, n3, fun g hg => ⟨Nat.lt_of_lt_of_le (hx g hg).1 k.size, (hx g hg).2⟩⟩
theorem TwS.pon (h : TwS w0 w p r on W on' L o X) : Calls Tryd.prog 18 #[.pointer (some ⟨p, 0, none⟩)] w fun e w' => e = .returned (.bool on) ∧ w' = w := by
  obtain ⟨bm, v, K, d, _⟩ := h
  exact dgon_any d
theorem TwS.ron (h : TwS w0 w p r on W on' L o X) : w.cell? ⟨r, 0, none⟩ = some (.bool on') := by
  obtain ⟨bm, v, K, d, q, _⟩ := h
  exact q.c0
theorem TwS.phas (h : TwS w0 w p r on W on' L o X) (x : Nat) (hx : x < 18446744073709551616) : Calls Tryd.prog 19 #[.pointer (some ⟨p, 0, none⟩), .int .u64 (x : Int)] w fun e w' => e = .returned (.bool (hasW W x)) ∧ ∃ n, w' = w.drewN n := by
  obtain ⟨bm, v, K, d, _⟩ := h
  exact dghas_any d x hx
theorem TwS.rhas (h : TwS w0 w p r on W on' L o X) (ho : o ≤ 100000) (x : Nat) : Calls Tryd.prog 20 #[.pointer (some ⟨r, 0, none⟩), .int .u64 (x : Int)] w fun e w' => e = .returned (.bool (decide (x ∈ L))) ∧ ∃ n, w' = w.drewN n := by
  obtain ⟨bm, v, K, d, q, kw, k1, k2, _⟩ := h
  exact rlhas_any q (by omega) x
/-- The program's block of words alone. -/
theorem TwS.pAct {on2 : Bool} {W2 : Nat → Nat} {o2 : Nat} {bm : Nat} {v : Value} {K : List Nat} (_ : DLg w p bm on W K) (h : RLg w r w0.heap.size on' v L ∧ Kp w0 w ∧ K.length ≤ o ∧ L.length ≤ o ∧ w0.heap.size ≤ p ∧ w0.heap.size ≤ bm ∧ w0.heap.size ≤ r ∧ p ≠ r ∧ bm ≠ r ∧ (∀ g, v.ownBlock = some g → g ≠ p ∧ g ≠ bm) ∧ ∀ g, X g → g < w.heap.size ∧ g ≠ p ∧ g ≠ bm ∧ g ≠ r ∧ v.ownBlock ≠ some g)
    {bm2 : Nat} {K2 : List Nat} (d2 : DLg w' p bm2 on2 W2 K2) (l2 : K2.length ≤ o2) (ho : o ≤ o2) (hb : bm2 = bm ∨ w.heap.size ≤ bm2) (f : Fr (fun g => g = p ∨ g = bm) w w') : TwS w0 w' p r on2 W2 on' L o2 X ∧ FrX w0 X w w' := by
  obtain ⟨q, kw, k1, k2, u1, u2, u3, n1, n2, n3, hx⟩ := h
  have hlr := q.lt
  refine ⟨⟨bm2, v, K2, d2, q.fr f (by rintro (e | e) <;> omega) (fun g e => by have := n3 g e; rintro (e | e) <;> omega), f.kp kw (by rintro i (e | e) <;> omega), l2, by omega, u1, ?_, u3, n1, ?_, ?_, ?_⟩, f.mono ?_⟩
  · have := kw.size; omega
  · omega
  · intro g e
    have h1 := n3 g e
    have h2 := (q.ax.up g e).2
    exact ⟨h1.1, by omega⟩
  · intro g hg
    have h1 := hx g hg
    exact ⟨Nat.lt_of_lt_of_le h1.1 f.size, h1.2.1, by omega, h1.2.2.2⟩
  · rintro g - (e | e)
    · exact ⟨by omega, fun c => (hx g c).2.1 e⟩
    · exact ⟨by omega, fun c => (hx g c).2.2.1 e⟩
theorem TwS.pnote (h : TwS w0 w p r on W on' L o X) (x : Nat) (hx : x < 18446744073709551616) (ho : o ≤ 2000000) : Calls Tryd.prog 16 #[.pointer (some ⟨p, 0, none⟩), .int .u64 (x : Int)] w fun e w' => e = .returned (.bool (on && !hasW W x)) ∧ TwS w0 w' p r on (if on then addB W x else W) on' L (o + 1) X ∧ FrX w0 X w w' := by
  obtain ⟨bm, v, K, d, h⟩ := h
  refine (note_any d x hx (by have := h.2.2.1; omega)).mono ?_
  rintro e w' ⟨he, K', d', l', f⟩
  exact ⟨he, TwS.pAct d h d' (by have := h.2.2.1; omega) (by omega) (.inl rfl) (f.mono fun g _ e => .inr e)⟩
theorem TwS.pforget (h : TwS w0 w p r on W on' L o X) (x : Nat) (hx : x < 18446744073709551616) (ho : o ≤ 2000000) : Calls Tryd.prog 7 #[.pointer (some ⟨p, 0, none⟩), .int .u64 (x : Int)] w fun e w' => e = .returned (.bool (hasW W x)) ∧ TwS w0 w' p r on (delB W x) on' L (o + 1) X ∧ FrX w0 X w w' := by
  obtain ⟨bm, v, K, d, h⟩ := h
  refine (forget_any d x hx (by have := h.2.2.1; omega)).mono ?_
  rintro e w' ⟨he, K', d', l', f⟩
  exact ⟨he, TwS.pAct d h d' (by have := h.2.2.1; omega) (by omega) (.inl rfl) (f.mono fun g _ e => .inr e)⟩
theorem TwS.pstart (h : TwS w0 w p r on W on' L o X) : Calls Tryd.prog 12 #[.pointer (some ⟨p, 0, none⟩)] w fun e w' => e = .returned (.int .i64 (if on then 20 else 0)) ∧ TwS w0 w' p r true (if on then W else W00) on' L (o + 1) X ∧ FrX w0 X w w' := by
  have h0 := h
  obtain ⟨bm, v, K, d, h⟩ := h
  refine (start_any d).mono ?_
  rintro e w' (⟨rfl, he, rfl⟩ | ⟨rfl, he, bm', hd, hb, f⟩)
  · exact ⟨he, h0.le (by omega), Fr.refl _ _⟩
  · exact ⟨he, TwS.pAct d h hd (Nat.zero_le _) (by omega) (.inr hb) (f.mono fun g _ e => .inl e)⟩
theorem TwS.pstop (h : TwS w0 w p r on W on' L o X) : Calls Tryd.prog 14 #[.pointer (some ⟨p, 0, none⟩)] w fun e w' => e = .returned (.int .i64 (if on then 0 else 20)) ∧ TwS w0 w' p r false (if on then W00 else W) on' L (o + 1) X ∧ FrX w0 X w w' := by
  have h0 := h
  obtain ⟨bm, v, K, d, h⟩ := h
  refine (stop_any d).mono ?_
  rintro e w' (⟨rfl, he, rfl⟩ | ⟨rfl, he, bm', hd, hb, f⟩)
  · exact ⟨he, h0.le (by omega), Fr.refl _ _⟩
  · exact ⟨he, TwS.pAct d h hd (Nat.zero_le _) (by omega) (.inr hb) (f.mono fun g _ e => .inl e)⟩
theorem TwS.pcoll_no (h : TwS w0 w p r false W on' L o X) : Calls Tryd.prog 9 #[.pointer (some ⟨p, 0, none⟩)] w fun e w' => e = .returned (.tuple #[.slice none 0 0, .int .i64 20]) ∧ w' = w := by
  obtain ⟨bm, v, K, d, _⟩ := h
  exact dcoll_off d
theorem TwS.pcoll (h : TwS w0 w p r true W on' L o X) (T : TAB w0) (ho : o ≤ 1000) : Calls Tryd.prog 9 #[.pointer (some ⟨p, 0, none⟩)] w fun e w' => ∃ na M cap, e = .returned (.tuple #[.slice na M.length cap, .int .i64 0]) ∧ AX LTw w' w.heap.size (.slice na M.length cap) M ∧ Tells W M ∧ M.length ≤ 64000 ∧ TwS w0 w' p r true W00 on' L o X ∧ FrX w0 X w w' ∧ ∀ g, na = some ⟨g, 0, none⟩ → TwS w0 w' p r true W00 on' L o (fun i => X i ∨ i = g) := by
  have h0 := h
  obtain ⟨bm, v, K, d, h⟩ := h
  refine (dcoll_on d (T.kp h.2.1) (by have := h.2.2.1; omega)).mono ?_
  rintro e w' ⟨na, M, cap, he, ax, tl, ll, bm', hd, hb, ho2, f⟩
  have ff : Fr (fun g => g = p ∨ g = bm) w w' := f.mono fun g _ e => .inl e
  have hT := TwS.pAct d h hd (Nat.zero_le o) (Nat.le_refl _) (.inr hb) ff
  refine ⟨na, M, cap, he, ax, tl, ll, hT.1, hT.2, fun g hg => ?_⟩
  subst hg
  have hu := ax.up g rfl
  obtain ⟨q, kw, k1, k2, u1, u2, u3, n1, n2, n3, hx⟩ := h
  have hl1 := d.lt
  have hl3 := q.lt
  have hg2 : g < bm' := ho2 g rfl
  refine ⟨bm', v, [], hd, q.fr ff (by rintro (e | e) <;> omega) (fun g e => by have := n3 g e; rintro (e | e) <;> omega), ff.kp kw (by rintro i (e | e) <;> omega), Nat.zero_le _, k2, u1, by have := kw.size; omega, u3, n1, by omega, fun g e => ?_, fun g2 hg => ?_⟩
  · have h1 := n3 g e
    have h2 := (q.ax.up g e).2
    exact ⟨h1.1, by omega⟩
  · rcases hg with c | rfl
    · have h1 := hx g2 c
      exact ⟨Nat.lt_of_lt_of_le h1.1 f.size, h1.2.1, by omega, h1.2.2.2⟩
    · refine ⟨hu.2, by omega, by omega, by omega, fun e => ?_⟩
      have := (q.ax.up _ e).2
      omega
/-- The document's act. -/
theorem TwS.rAct {on2 : Bool} {L2 : List Nat} {o2 : Nat} {bm : Nat} {v : Value} {K : List Nat} (d : DLg w p bm on W K) (_ : RLg w r w0.heap.size on' v L) (h : Kp w0 w ∧ K.length ≤ o ∧ L.length ≤ o ∧ w0.heap.size ≤ p ∧ w0.heap.size ≤ bm ∧ w0.heap.size ≤ r ∧ p ≠ r ∧ bm ≠ r ∧ (∀ g, v.ownBlock = some g → g ≠ p ∧ g ≠ bm) ∧ ∀ g, X g → g < w.heap.size ∧ g ≠ p ∧ g ≠ bm ∧ g ≠ r ∧ v.ownBlock ≠ some g)
    (hr : RLo w w' r w0.heap.size on2 v L2) (l2 : L2.length ≤ o2) (ho : o ≤ o2) : TwS w0 w' p r on W on2 L2 o2 X ∧ FrX w0 X w w' := by
  obtain ⟨kw, k1, k2, u1, u2, u3, n1, n2, n3, hx⟩ := h
  obtain ⟨v', q', f, hv⟩ := hr
  have hl1 := d.lt
  have hl2 := d.m.lt
  have own : ∀ g, v'.ownBlock = some g → v.ownBlock = some g ∨ w.heap.size ≤ g := fun g e => by
    rcases hv with c | c | ⟨g', c, hg⟩
    · rw [c] at e; exact .inl e
    · rw [c] at e; cases e
    · rw [c] at e; cases e; exact .inr hg
  refine ⟨⟨bm, v', K, d.fr f (fun e => n1 e) (fun e => n2 e), q', f.kp kw (by rintro i e; have e : i = r := e; omega), by omega, l2, u1, u2, u3, n1, n2, fun g e => ?_, fun g hg => ?_⟩, f.mono ?_⟩
  · rcases own g e with c | c
    · exact n3 g c
    · omega
  · have h1 := hx g hg
    refine ⟨Nat.lt_of_lt_of_le h1.1 f.size, h1.2.1, h1.2.2.1, h1.2.2.2.1, fun e => ?_⟩
    rcases own g e with c | c
    · exact h1.2.2.2.2 c
    · omega
  · intro g _ e
    have e : g = r := e
    exact ⟨by omega, fun c => (hx g c).2.2.2.1 e⟩
theorem TwS.rnote (h : TwS w0 w p r on W on' L o X) (x : Nat) (ho : o ≤ 100000) : Calls Tryd.prog 17 #[.pointer (some ⟨r, 0, none⟩), .int .u64 (x : Int)] w fun e w' => e = .returned (.bool (on' && !decide (x ∈ L))) ∧ ∃ L', TwS w0 w' p r on W on' L' (o + 1) X ∧ FrX w0 X w w' ∧ ∀ q, q ∈ L' ↔ q ∈ L ∨ (on' = true ∧ q = x) := by
  obtain ⟨bm, v, K, d, q, h⟩ := h
  refine (rlnote_any q h.1.size (by have := h.2.2.1; omega) x).mono ?_
  rintro e w' ⟨he, L', h1, h2, h3⟩
  have := TwS.rAct d q h h1 (o2 := o + 1) (by have := h.2.2.1; omega) (by omega)
  exact ⟨he, L', this.1, this.2, h3⟩
theorem TwS.rforget (h : TwS w0 w p r on W on' L o X) (x : Nat) (ho : o ≤ 100000) : Calls Tryd.prog 8 #[.pointer (some ⟨r, 0, none⟩), .int .u64 (x : Int)] w fun e w' => e = .returned (.bool (decide (x ∈ L))) ∧ ∃ L', TwS w0 w' p r on W on' L' (o + 1) X ∧ FrX w0 X w w' ∧ ∀ q, q ∈ L' ↔ q ∈ L ∧ q ≠ x := by
  obtain ⟨bm, v, K, d, q, h⟩ := h
  refine (rlforget_any q h.1.size (by have := h.2.2.1; omega) x).mono ?_
  rintro e w' ⟨he, L', h1, h2, h3⟩
  have := TwS.rAct d q h h1 (o2 := o + 1) (by have := h.2.2.1; omega) (by omega)
  exact ⟨he, L', this.1, this.2, h3⟩
theorem TwS.rstart (h : TwS w0 w p r on W on' L o X) : Calls Tryd.prog 13 #[.pointer (some ⟨r, 0, none⟩)] w fun e w' => e = .returned (.int .i64 (if on' then 20 else 0)) ∧ TwS w0 w' p r on W true (if on' then L else []) (o + 1) X ∧ FrX w0 X w w' := by
  have h0 := h
  obtain ⟨bm, v, K, d, q, h⟩ := h
  refine (rlstart_any q).mono ?_
  rintro e w' (⟨rfl, he, rfl⟩ | ⟨rfl, he, hr⟩)
  · exact ⟨he, h0.le (by omega), Fr.refl _ _⟩
  · exact ⟨he, TwS.rAct d q h hr (Nat.zero_le _) (by omega)⟩
theorem TwS.rstop (h : TwS w0 w p r on W on' L o X) : Calls Tryd.prog 15 #[.pointer (some ⟨r, 0, none⟩)] w fun e w' => e = .returned (.int .i64 (if on' then 0 else 20)) ∧ TwS w0 w' p r on W false (if on' then [] else L) (o + 1) X ∧ FrX w0 X w w' := by
  have h0 := h
  obtain ⟨bm, v, K, d, q, h⟩ := h
  refine (rlstop_any q).mono ?_
  rintro e w' (⟨rfl, he, rfl⟩ | ⟨rfl, he, hr⟩)
  · exact ⟨he, h0.le (by omega), Fr.refl _ _⟩
  · exact ⟨he, TwS.rAct d q h hr (Nat.zero_le _) (by omega)⟩
theorem TwS.rcoll_no (h : TwS w0 w p r on W false L o X) : Calls Tryd.prog 10 #[.pointer (some ⟨r, 0, none⟩)] w fun e w' => e = .returned (.tuple #[.slice none 0 0, .int .i64 20]) ∧ w' = w := by
  obtain ⟨bm, v, K, d, q, h⟩ := h
  refine (rlcoll_any q).mono ?_
  rintro e w' (⟨_, he, hw⟩ | ⟨c, _⟩)
  · exact ⟨he, hw⟩
  · cases c
theorem TwS.rcoll (h : TwS w0 w p r on W true L o X) : Calls Tryd.prog 10 #[.pointer (some ⟨r, 0, none⟩)] w fun e w' => ∃ nb cap, e = .returned (.tuple #[.slice nb L.length cap, .int .i64 0]) ∧ AS LTw w' nb L ∧ L.Pairwise (· < ·) ∧ L.length ≤ o ∧ TwS w0 w' p r on W true [] o X ∧ FrX w0 X w w' := by
  obtain ⟨bm, v, K, d, q, h⟩ := h
  have rr := q.rise
  have ll := h.2.2.1
  refine (rlcoll_any q).mono ?_
  rintro e w' (⟨c, _⟩ | ⟨_, he, hr, hax⟩)
  · cases c
  · obtain ⟨nb, cap, rfl, _⟩ := hax.form okT_w64
    have := TwS.rAct d q h hr (Nat.zero_le o) (Nat.le_refl _)
    exact ⟨nb, cap, he, hax.src okT_w64, rr, ll, this.1, this.2⟩
end

end Go.Proofs.YthkkcnnlfjchaaaDoor
