/- index: all frames' bytes, told; the document's index, made anew or with them. -/
import Derived.Test.YtpjlmmiceiionaaDoorY2
import Derived.Deep.DeepCutAuto
namespace Go.Proofs.YtpjlmmiceiionaaDoor
open Go.RowKit Go.Maps
set_option maxRecDepth 10000

section
variable {w w' : World} {X : Nat → Prop} {p pm ops : Nat} {F : Nat → Nat → Nat} {Sg : Nat → Option CN}
/-- The first frames' bytes, told. -/
def FrL (w wr : World) (F : Nat → Nat → Nat) (v : Value) (i : Nat) (Bs : List Nat) : Prop :=
  Kp w wr ∧ AX LTpg wr w.heap.size v Bs ∧ Bs.length = i ∧ (∀ (j x : Nat), Bs[j]? = some x → w.heap.size ≤ x ∧ BS wr x 0 4096 (F j)) ∧ ∀ g, v.ownBlock = some g → g ∉ Bs
set_option maxHeartbeats 8000000 in
theorem frames20_any (h : TIx w X p pm ops F Sg) :
    Calls Tryd.prog 7 #[.pointer (some ⟨pm, 0, none⟩)] w fun e w' => ∃ v Bs, e = .returned v ∧ Kp w w' ∧ PgF w' (fun i => w.heap.size ≤ i ∧ i < w'.heap.size) F v Bs := by
  have HT : Hid (TIx w X p pm ops F Sg) := h
  clear h
  go_enter Tryd.func7, Tryd.ntmps7
  go_wp2_with fail
  go_loopg [3, 4] 13 (fun gg v3 v4 wr => ∃ i : Nat, v4 = .int .i64 (i : Int) ∧ i ≤ 12 ∧ 13 - i ≤ gg ∧ Hid (∃ Bs, FrL w wr F v3 i Bs))
  case atStart => exact ⟨0, rfl, by omega, by omega, [], Kp.refl w, AX.nil _ _, rfl, fun j x e => (by simp at e), fun g e => by cases e⟩
  case round =>
    obtain ⟨i, rfl, hi, hg, HI⟩ := hrel
    have c1 : Calls Tryd.prog 26 #[.pointer (some ⟨pm, 0, none⟩)] wr fun e w' => e = .returned (.int .i64 12) ∧ w' = wr := by
      obtain ⟨Bs, k, _⟩ := HI.out
      exact (HT.out.kp k).frames
    by_cases hlt : i < 12
    · have z1 : (i : Int) < 12 := by omega
      obtain ⟨Bs, k0, ax0, hl0, row0, own0⟩ := HI.out
      have c2 := (HT.out.kp k0).get_ok i hlt
      have HB : Hid (FrL w wr F u3 i Bs) := ⟨k0, ax0, hl0, row0, own0⟩
      clear k0 ax0 hl0 row0 own0 HI
      go_wp2_with fail
      with_reducible refine c1.mono ?_
      rintro e wr ⟨rfl, rfl⟩
      clear c1
      go_wp2_with fail
      with_reducible refine c2.mono ?_
      rintro e w2 ⟨rfl, b2, _, k2⟩
      clear c2
      obtain ⟨b, hb⟩ : ∃ b, b = wr.heap.size := ⟨_, rfl⟩
      rw [← hb] at b2 ⊢
      obtain ⟨k0, ax0, hl0, row0, own0⟩ := HB.out
      have kt : Kp w2 (w2.alloc (.cells #[.slice (some ⟨b, 0, none⟩) 4096 4096] 40)) := (Kp.refl w2).alloc _
      have hs : AS LTpg (w2.alloc (.cells #[.slice (some ⟨b, 0, none⟩) 4096 4096] 40)) (some ⟨w2.heap.size, 0, none⟩) [b] := row_madew (T := LTpg) w2 b
      have K2 := k2.trans kt
      have sz := k0.size
      have sz2 := k2.size
      obtain ⟨na', n', cap', w4, r4, n4, ax4, fr4, kp4, own4⟩ := (ax0.kp K2).app LTpg_ok (Nat.le_trans sz (Nat.le_trans sz2 kt.size)) hs (m := 1) (c := 1) rfl (fun c => by cases c) (by simp; omega) 28
      have H4 : Hid (∃ Bs, FrL w w4 F (.slice na' n' cap') (i + 1) Bs) := by
        refine ⟨Bs ++ [b], kp4 w (Nat.le_refl _) (k0.trans K2), ax4, by simp [hl0], fun j x hx => ?_, fun g hg hm => ?_⟩
        · by_cases hj : j < i
          · rw [List.getElem?_append_left (by omega)] at hx
            obtain ⟨q1, q2⟩ := row0 j x hx
            exact ⟨q1, (q2.kp K2).fr fr4 (fun s => own0 x s (List.mem_of_getElem? hx))⟩
          · have hj2 : j = i := by
              have := (List.getElem?_eq_some_iff.1 hx).1
              simp at this
              omega
            subst hj2
            rw [List.getElem?_append_right (by omega), hl0] at hx
            simp at hx
            subst hx
            refine ⟨by omega, (b2.kp kt).fr fr4 (fun s => ?_)⟩
            have := (ax0.up b s).2
            omega
        · rcases own4 with e | e
          · rw [e] at hg
            rcases List.mem_append.1 hm with c | c
            · exact own0 g hg c
            · rw [List.mem_singleton] at c
              have := (ax0.up g hg).2
              omega
          · rw [hg] at e
            cases e
            rcases List.mem_append.1 hm with c | c
            · obtain ⟨j, hj⟩ := List.mem_iff_getElem?.1 c
              have := (row0 j _ hj).2.lt
              have := kt.size
              omega
            · rw [List.mem_singleton] at c
              have := b2.lt
              have := kt.size
              omega
      clear k0 ax0 hl0 row0 own0 kt hs K2 sz sz2 n4 ax4 fr4 kp4 own4 b2 k2 hb HB
      repeat' (first | ((with_reducible refine wp_append_of r4 (.tmp 19) (.tmp 21) ?_ ?_ ?_ ?_ ?_); rfl; rfl; rfl; rfl) | go_values | go_skip | go_guarded | go_step | go_upon | go_back | (simp only []) | (go_values <;> (try go_simp)) | (go_ite <;> go_prune <;> (try go_simp)))
      go_roundg (13 - (i + 1))
      case measure => omega
      case rel => exact ⟨i + 1, by go_num, by omega, by omega, H4⟩
    · have z1 : ¬ (i : Int) < 12 := by omega
      have : i = 12 := by omega
      subst this
      go_wp2_with fail
      with_reducible refine c1.mono ?_
      rintro e wr ⟨rfl, rfl⟩
      clear c1
      go_wp2_with fail
      go_ret
      obtain ⟨Bs, k0, ax0, hl0, row0, own0⟩ := HI.out
      exact ⟨_, Bs, rfl, k0, ax0.low (Nat.zero_le _), fun g hg => ax0.up g hg, hl0, fun j x hx => ⟨⟨(row0 j x hx).1, (row0 j x hx).2.lt⟩, (row0 j x hx).2⟩⟩
end

section
variable {w0 w w' : World} {X : Nat → Prop} {p pm r bo o : Nat} {row : Array Value} {F F' : Nat → Nat → Nat} {Sg Sg' : Nat → Option CN}
/-- Both, with the frames' bytes told anew. -/
def IPF (w0 w : World) (p pm r bo o : Nat) (row : Array Value) (F F' : Nat → Nat → Nat) (Sg Sg' : Nat → Option CN) (vf : Value) : Prop := ∃ X Bs, IPX w0 w X p pm r o F F' Sg Sg' ∧ (X bo ∧ bo ≠ r) ∧ w.heap[bo]? = some (.cells row 35 (0, 0)) ∧ PgF w X F vf Bs ∧ (∀ g, vf.ownBlock = some g → g ≠ r) ∧ r ∉ Bs
theorem IPM.frames (h : IPM w0 w p pm r bo o row F F' Sg Sg') :
    Calls Tryd.prog 7 #[.pointer (some ⟨pm, 0, none⟩)] w fun e w' => ∃ v, e = .returned v ∧ IPF w0 w' p pm r bo o row F F' Sg Sg' v := by
  obtain ⟨X, h, hb, hc⟩ := h
  obtain ⟨ops, ho, t⟩ := h.t
  refine (frames20_any t).mono ?_
  rintro e w' ⟨v, Bs, rfl, k, q⟩
  have hr := h.xlt r h.xr
  refine ⟨v, rfl, _, Bs, h.kp k, ⟨.inl hb.1, hb.2⟩, (k.block bo (h.xlt bo hb.1)).trans hc, q.more fun _ hk => .inr hk, fun g hg e => ?_, fun c => ?_⟩
  · have := (q.own g hg).1; omega
  · obtain ⟨j, hj⟩ := List.mem_iff_getElem?.1 c
    have := (q.row j r hj).1.1; omega
theorem IPF.fz {vf : Value} (h : IPF w0 w p pm r bo o row F F' Sg Sg' vf) : w.frozen? ⟨r, 0, none⟩ = false ∧ ∃ u, w.cell? ⟨r, 0, none⟩ = some u := by
  obtain ⟨X, Bs, h, _⟩ := h
  obtain ⟨v, vl, Bs, d⟩ := h.d
  exact ⟨d.fz 0, _, d.c0⟩
theorem IPF.form {vf : Value} (h : IPF w0 w p pm r bo o row F F' Sg Sg' vf) : ∃ a b c, vf = .slice a b c := by
  obtain ⟨X, Bs, _, _, _, q, _⟩ := h
  obtain ⟨a, c, e, _⟩ := q.ax.form LTpg_ok
  exact ⟨a, _, c, e⟩
theorem IPF.store {vf : Value} (h : IPF w0 w p pm r bo o row F F' Sg Sg' vf) : IPM w0 (w.setCell ⟨r, 0, none⟩ vf) p pm r bo o row F F Sg Sg' := by
  obtain ⟨X, Bs, h, hb, hc, q, n1, n2⟩ := h
  obtain ⟨v, vl, Bs0, d⟩ := h.d
  have k : Fr (· = r) w (w.setCell ⟨r, 0, none⟩ vf) := Fr.set (S := (· = r)) (Fr.refl _ _) ⟨r, 0, none⟩ vf rfl
  have hd : RIx (w.setCell ⟨r, 0, none⟩ vf) X r F Sg' vf vl Bs :=
    ⟨two_setR0 d.c vf, q.fr k (fun g hg c => by
      rcases hg with e | e
      · exact n1 g e c
      · rw [c] at e; exact n2 e), d.ax.fr k (fun g _ _ e s => (d.own g e).2 s), d.own, d.xr, n1, n2⟩
  exact IPM.doc h hb hc ⟨vf, vl, Bs, hd.more fun _ hk => .inl hk, k⟩
/-- At the head of a round. -/
def IPL (w0 w : World) (p pm r i : Nat) : Prop := ∃ X F Sg, IPX w0 w X p pm r i F F Sg Sg
theorem IPM.head {i : Nat} (h : IPM w0 w p pm r bo i row F F Sg Sg) : IPL w0 w p pm r i := by
  obtain ⟨X, h, _⟩ := h
  exact ⟨X, F, Sg, h⟩
theorem IPL.kpw {i : Nat} (h : IPL w0 w p pm r i) : Kp w0 w := by
  obtain ⟨_, _, _, h⟩ := h
  exact h.k
theorem IPL.box {i : Nat} (h : IPL w0 w p pm r i) (row : Array Value) : ∃ F Sg, IPM w0 (w.alloc (.cells row 35)) p pm r w.heap.size i row F F Sg Sg := by
  obtain ⟨X, F, Sg, h⟩ := h
  have k : Kp w (w.alloc (.cells row 35)) := (Kp.refl w).alloc _
  have hr := h.xlt r h.xr
  exact ⟨F, Sg, _, h.kp k, ⟨.inr ⟨Nat.le_refl _, by simp⟩, by omega⟩, heap_alloc_new w _⟩
/-- The document's index, made. -/
theorem IPL.start {w1 w2 : World} {vf : Value} {Bs : List Nat} (T : TAB w0) (t : TIx w1 (fun k => k < w0.heap.size) p pm 0 F (fun _ => none)) (k1 : Kp w0 w1) (k2 : Kp w1 w2) (q : PgF w2 (fun i => w1.heap.size ≤ i ∧ i < w2.heap.size) F vf Bs) : IPL w0 (w2.alloc (.cells #[vf, .slice none 0 0] 32)) p pm w2.heap.size 0 := by
  have k3 : Kp w2 (w2.alloc (.cells #[vf, .slice none 0 0] 32)) := (Kp.refl w2).alloc _
  have hlt : w2.heap.size < (w2.alloc (.cells #[vf, .slice none 0 0] 32)).heap.size := by simp
  refine ⟨_, F, fun _ => none, ⟨0, Nat.le_refl _, t.kp (k2.trans k3)⟩, ⟨vf, .slice none 0 0, Bs, ⟨heap_alloc_new w2 _, (q.kp k3).more (fun i hi => .inr ⟨hi.1, by omega⟩), by rw [inL_none]; exact AX.nil _ _, (fun g e => by cases e), .inr ⟨k2.size, hlt⟩, fun g hg e => ?_, fun c => ?_⟩⟩, (k1.trans k2).trans k3, fun i hi => .inl hi, Nat.le_trans k1.size k2.size, T⟩
  · have := (q.own g hg).2; omega
  · obtain ⟨j, hj⟩ := List.mem_iff_getElem?.1 c
    have := (q.row j _ hj).1.2; omega
end

end Go.Proofs.YtpjlmmiceiionaaDoor
