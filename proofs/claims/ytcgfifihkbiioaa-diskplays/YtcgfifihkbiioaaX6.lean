/- disk.Disk inside a part of the world; what the program tells of a few (layer 6). -/
import Derived.Test.YtcgfifihkbiioaaX5
namespace Go.Proofs.Ytcgfifihkbiioaa
open Go.RowKit Go.Maps

/-- The device lies inside U. -/
def DU (U : Nat → Prop) (w : World) (p N : Nat) (T : Slots) (A : List Bool) : Prop := ∃ S, DK w S p N T A ∧ ∀ i, S i → U i
def Free (U : Nat → Prop) (w : World) : Prop := ∀ k, w.heap.size ≤ k → U k
theorem Free.kp {U : Nat → Prop} {w w' : World} (h : Free U w) (hs : w.heap.size ≤ w'.heap.size) : Free U w' := fun k hk => h k (Nat.le_trans hs hk)
theorem Free.fr {U X : Nat → Prop} {w w' : World} (h : Free U w) (k : Fr X w w') : Free U w' := h.kp k.size
theorem DU.kp {U : Nat → Prop} {w w' : World} {p N : Nat} {T : Slots} {A : List Bool} (h : DU U w p N T A) (k : Kp w w') : DU U w' p N T A := by
  obtain ⟨S, h1, h2⟩ := h
  exact ⟨S, h1.kp k, h2⟩
theorem DU.out {U X : Nat → Prop} {w w' : World} {p N : Nat} {T : Slots} {A : List Bool} (h : DU U w p N T A) (k : Fr X w w') (hX : ∀ i, U i → ¬ X i) : DU U w' p N T A := by
  obtain ⟨S, h1, h2⟩ := h
  exact ⟨S, h1.fr k (fun i hi => hX i (h2 i hi)), h2⟩
theorem DU.cut {U U' : Nat → Prop} {w : World} {p N : Nat} {T : Slots} {A : List Bool} (h : DU U w p N T A) (hU : ∀ i, i < w.heap.size → U i → U' i) : DU U' w p N T A := by
  obtain ⟨S, h1, h2⟩ := h
  exact ⟨S, h1, fun i hi => hU i (h1.own i hi) (h2 i hi)⟩
theorem DU.n2 {U : Nat → Prop} {w : World} {p N : Nat} {T : Slots} {A : List Bool} (h : DU U w p N T A) : N ≤ 4096 := by
  obtain ⟨S, h1, _⟩ := h
  exact h1.n2
theorem DU.al {U : Nat → Prop} {w : World} {p N : Nat} {T : Slots} {A : List Bool} (h : DU U w p N T A) : A.length ≤ 4611686018427387904 := by
  obtain ⟨S, h1, _⟩ := h
  exact h1.al

section
variable {U : Nat → Prop} {w : World} {p N : Nat} {T : Slots} {A : List Bool}
theorem dd_new (n : Nat) (w : World) (h2 : n ≤ 4096) :
    Calls Try.prog 7 #[.int .i64 (n : Int)] w fun e w' => ∃ p, e = .returned (.tuple #[.pointer (some ⟨p, 0, none⟩), .int .i64 0]) ∧ DU (fun k => w.heap.size ≤ k) w' p n (fun _ => none) [] ∧ Kp w w' :=
  (dnew_ok n w h2).mono fun _ _ ⟨p, S, h1, h2, h3, h4⟩ => ⟨p, h1, ⟨S, h2, h4⟩, h3⟩
theorem dd_take (h : DU U w p N T A) (fU : Free U w) :
    Calls Try.prog 9 #[.pointer (some ⟨p, 0, none⟩)] w fun e w' => e = .returned (.tuple #[.int .i64 (tkX N T : Nat), .int .i64 (tkR N T)]) ∧ DU U w' p N (tkT N T) A ∧ Fr U w w' := by
  obtain ⟨S, h1, h2⟩ := h
  exact (dtake_any h1).mono fun e w' ⟨e1, S', m, k, l⟩ => ⟨e1, ⟨S', m, fun i hi => (l i hi).elim (h2 i) (fU i)⟩, k.mono (fun i _ hi => h2 i hi)⟩
theorem dd_give (h : DU U w p N T A) (x : Int) (hx : (Lit.int .i64 x).wf = true) :
    Calls Try.prog 11 #[.pointer (some ⟨p, 0, none⟩), .int .i64 x] w fun e w' => e = .returned (.int .i64 (gvR T x)) ∧ DU U w' p N (gvT T x) A ∧ Fr U w w' := by
  obtain ⟨S, h1, h2⟩ := h
  exact (dgive_any h1 x hx).mono fun e w' ⟨e1, m, k⟩ => ⟨e1, ⟨S, m, h2⟩, k.mono (fun i _ hi => h2 i hi)⟩
theorem dd_write (h : DU U w p N T A) (x : Int) (hx : (Lit.int .i64 x).wf = true) (na : Option Addr) (n cap : Nat) (f : Nat → Nat) (hf : Bytes f) (hs : n = 4096 → ∃ c o, na = some ⟨c, o, none⟩ ∧ c < w.heap.size ∧ ¬ U c ∧ Cells w c o n f) :
    Calls Try.prog 14 #[.pointer (some ⟨p, 0, none⟩), .int .i64 x, .slice na n cap] w fun e w' => e = .returned (.int .i64 (wrR T A x n)) ∧ DU U w' p N (wrT T A x n f) (wrA T A x n) ∧ Fr U w w' := by
  obtain ⟨S, h1, h2⟩ := h
  exact (dwrite_any h1 x hx na n cap f hf (fun hn => by obtain ⟨c, o, r1, r2, r3, r4⟩ := hs hn; exact ⟨c, o, r1, r2, fun s => r3 (h2 c s), r4⟩)).mono fun e w' ⟨e1, m, k⟩ => ⟨e1, ⟨S, m, h2⟩, k.mono (fun i _ hi => h2 i hi)⟩
theorem dd_read (h : DU U w p N T A) (x : Int) (hx : (Lit.int .i64 x).wf = true) :
    Calls Try.prog 16 #[.pointer (some ⟨p, 0, none⟩), .int .i64 x] w fun e w' => ∃ na cap, e = .returned (.tuple #[.slice na (rdN T A x) cap, .int .i64 (rdR T A x)]) ∧ Told w w' na (rdN T A x) (rdF T x) ∧ DU U w' p N T (rdA T A x) ∧ Fr U w w' := by
  obtain ⟨S, h1, h2⟩ := h
  exact (dread_any h1 x hx).mono fun e w' ⟨na, cap, e1, t, m, k⟩ => ⟨na, cap, e1, t, ⟨S, m, h2⟩, k.mono (fun i _ hi => h2 i hi)⟩
theorem dd_fail (h : DU U w p N T A) (fU : Free U w) (na : Option Addr) (n cap : Nat) (nb : Nat → Bool) (H : NS w na n nb) (hc : na = none → n = 0 ∧ cap = 0) (h1 : n ≤ 4000000000) :
    Calls Try.prog 18 #[.pointer (some ⟨p, 0, none⟩), .slice na n cap] w fun e w' => e = .returned (.tuple #[]) ∧ DU U w' p N T (bl nb n) ∧ Fr U w w' := by
  obtain ⟨S, h1', h2⟩ := h
  exact (dfail_any h1' na n cap nb H hc h1).mono fun e w' ⟨e1, S', m, k, l⟩ => ⟨e1, ⟨S', m, fun i hi => (l i hi).elim (h2 i) (fU i)⟩, k.mono (fun i _ hi => h2 i hi)⟩
theorem dd_free (h : DU U w p N T A) :
    Calls Try.prog 20 #[.pointer (some ⟨p, 0, none⟩)] w fun e w' => e = .returned (.int .i64 ((N : Int) - (tkn T N : Nat))) ∧ Dr w w' := by
  obtain ⟨S, h1, _⟩ := h
  exact dfree_any h1
theorem dd_left (h : DU U w p N T A) :
    Calls Try.prog 22 #[.pointer (some ⟨p, 0, none⟩)] w fun e w' => e = .returned (.int .i64 (A.length : Nat)) ∧ w' = w := by
  obtain ⟨S, h1, _⟩ := h
  exact dleft_any h1
end

/-! ### told -/
def nT : Slots := fun _ => none
def oT : Slots := putT nT 0 z0
def pT (f : Nat → Nat) : Slots := putT oT 0 f
/-- A block of the law's own, beside the device. -/
def Bes (W : World) (b : Nat) : Nat → Prop := fun k => W.heap.size ≤ k ∧ k ≠ b

theorem nsTrue (w : World) : NS (w.alloc (.cells #[.bool true] 4)) (some ⟨w.heap.size, 0, none⟩) 1 (fun _ => true) := fun i hi => by
  have e : i = 0 := by omega
  subst e
  exact ⟨w.heap.size, 0, rfl, by simp, by rw [World.cell?_alloc_at _ _ _ _ rfl]; rfl⟩

set_option maxHeartbeats 4000000 in
set_option maxRecDepth 10000 in
theorem told_any (w : World) : Calls Try.prog 23 #[] w fun e w' => e = .returned (.bool true) ∧ Kp w w' := by
  have k1 : Calls Try.prog 7 #[.int .i64 1] w fun e w' => ∃ p, e = .returned (.tuple #[.pointer (some ⟨p, 0, none⟩), .int .i64 0]) ∧ DU (fun k => w.heap.size ≤ k) w' p 1 (fun _ => none) [] ∧ Kp w w' := dd_new 1 w (by omega)
  have k2 := fun w => dnew_no 4097 w (.inr (by omega))
  go_enter Try.func23, Try.ntmps23
  go_wp2_with fail
  with_reducible refine k1.mono ?_
  rintro e w1 ⟨p, rfl, P1, K1⟩
  clear k1
  have hU : ∀ w', w.heap.size ≤ w'.heap.size → Free (fun k => w.heap.size ≤ k) w' := fun w' h k hk => Nat.le_trans h hk
  have k3 : Calls Try.prog 9 #[.pointer (some ⟨p, 0, none⟩)] w1 fun e w' => e = .returned (.tuple #[.int .i64 0, .int .i64 0]) ∧ DU (fun k => w.heap.size ≤ k) w' p 1 oT [] ∧ Fr (fun k => w.heap.size ≤ k) w1 w' := dd_take P1 (hU _ K1.size)
  have HK : Hid (Kp w w1) := K1
  clear P1 K1
  go_wp2_with (first | (go_at_call 7; with_reducible refine (k2 _).mono ?_; rintro e w' ⟨rfl, rfl⟩))
  with_reducible refine k3.mono ?_
  rintro e w2 ⟨rfl, P2, F2⟩
  clear k2 k3
  have K2 := F2.kp HK.out (fun i hi => hi)
  have k4 : Calls Try.prog 9 #[.pointer (some ⟨p, 0, none⟩)] w2 fun e w' => e = .returned (.tuple #[.int .i64 0, .int .i64 12]) ∧ DU (fun k => w.heap.size ≤ k) w' p 1 oT [] ∧ Fr (fun k => w.heap.size ≤ k) w2 w' := dd_take P2 (hU _ K2.size)
  have HK2 : Hid (Kp w w2) := K2
  clear P2 F2 K2 HK
  go_wp2_with fail
  with_reducible refine k4.mono ?_
  rintro e w3 ⟨rfl, P3, F3⟩
  clear k4
  have K3 := F3.kp HK2.out (fun i hi => hi)
  have kA : Kp w3 (w3.alloc (.cells #[.bool true] 4)) := (Kp.refl w3).alloc _
  have k5 : Calls Try.prog 18 #[.pointer (some ⟨p, 0, none⟩), .slice (some ⟨w3.heap.size, 0, none⟩) 1 1] (w3.alloc (.cells #[.bool true] 4)) fun e w' => e = .returned (.tuple #[]) ∧ DU (fun k => w.heap.size ≤ k) w' p 1 oT [true] ∧ Fr (fun k => w.heap.size ≤ k) (w3.alloc (.cells #[.bool true] 4)) w' := dd_fail (P3.kp kA) (hU _ (K3.trans kA).size) _ 1 1 (fun _ => true) (nsTrue w3) (fun h => by cases h) (by omega)
  have HK3 : Hid (Kp w (w3.alloc (.cells #[.bool true] 4))) := K3.trans kA
  clear P3 F3 K3 kA HK2
  go_wp2_with fail
  with_reducible refine k5.mono ?_
  rintro e w4 ⟨rfl, P4, F4⟩
  clear k5
  have K4 := F4.kp HK3.out (fun i hi => hi)
  have hmk := make_page w4
  obtain ⟨b, hb⟩ : ∃ b, b = w4.heap.size := ⟨_, rfl⟩
  obtain ⟨w5, h5⟩ : ∃ w5, w5 = w4.alloc (.cells (bytesOf z0 4096).toArray 5) := ⟨_, rfl⟩
  have k45 : Kp w4 w5 := by rw [h5]; exact (Kp.refl w4).alloc _
  have bs : BS w5 b 0 4096 z0 := by rw [h5, hb]; exact (RB.made w4 4096).bs z0_byte
  have P5 : DU (Bes w b) w5 p 1 oT [true] := (P4.cut (fun i hi h => ⟨h, by omega⟩)).kp k45
  rw [← h5, ← hb] at hmk
  have c9 := bs.cell 9 (by omega)
  have f9 := bs.frz 9 (by omega)
  have b6 := bs.set 9 7 (by omega) (by omega)
  rw [Nat.zero_add] at c9 f9 b6
  have k56 : Fr (· = b) w5 (w5.setCell ⟨b, 9, none⟩ (.int .u8 (7 : Nat))) := (Fr.refl _ w5).set _ _ rfl
  have P6 := P5.out k56 (fun i hi e => hi.2 e)
  have K6 : Kp w (w5.setCell ⟨b, 9, none⟩ (.int .u8 (7 : Nat))) := k56.kp (K4.trans k45) (fun i hi => by rw [hi, hb]; exact K4.size)
  have hFr : ∀ w', (w5.setCell ⟨b, 9, none⟩ (.int .u8 (7 : Nat))).heap.size ≤ w'.heap.size → Free (Bes w b) w' := fun w' h k hk => ⟨by have := K6.size; omega, by have := b6.lt; omega⟩
  rw [show (((7 : Nat)) : Int) = 7 from rfl] at P6 K6 hFr b6
  have k6 : Calls Try.prog 14 #[.pointer (some ⟨p, 0, none⟩), .int .i64 0, .slice (some ⟨b, 0, none⟩) 4096 4096] (w5.setCell ⟨b, 9, none⟩ (.int .u8 7)) fun e w' => e = .returned (.int .i64 13) ∧ DU (Bes w b) w' p 1 oT [] ∧ Fr (Bes w b) (w5.setCell ⟨b, 9, none⟩ (.int .u8 7)) w' := dd_write P6 0 (by decide) _ 4096 4096 (upd z0 9 7) b6.byte (fun _ => ⟨b, 0, rfl, b6.lt, fun h => h.2 rfl, b6.cells⟩)
  have H6 : Hid (Kp w (w5.setCell ⟨b, 9, none⟩ (.int .u8 7)) ∧ BS (w5.setCell ⟨b, 9, none⟩ (.int .u8 7)) b 0 4096 (upd z0 9 7)) := ⟨K6, b6⟩
  clear P4 F4 K4 hb h5 k45 bs P5 k56 P6 K6 hFr b6 HK3
  generalize z0 9 = z at *
  go_wp2_with fail
  with_reducible refine k6.mono ?_
  rintro e w7 ⟨rfl, P7, F7⟩
  clear k6 hmk
  have b7 := H6.out.2.fr F7 (fun h => h.2 rfl)
  have k7 : Calls Try.prog 14 #[.pointer (some ⟨p, 0, none⟩), .int .i64 0, .slice (some ⟨b, 0, none⟩) 4096 4096] w7 fun e w' => e = .returned (.int .i64 0) ∧ DU (Bes w b) w' p 1 (pT (upd z0 9 7)) [] ∧ Fr (Bes w b) w7 w' := dd_write P7 0 (by decide) _ 4096 4096 (upd z0 9 7) b7.byte (fun _ => ⟨b, 0, rfl, b7.lt, fun h => h.2 rfl, b7.cells⟩)
  have H7 : Hid (Kp w w7) := F7.kp H6.out.1 (fun i hi => hi.1)
  clear P7 F7 b7 H6
  go_wp2_with fail
  with_reducible refine k7.mono ?_
  rintro e w8 ⟨rfl, P8, F8⟩
  clear k7
  have k8 : Calls Try.prog 16 #[.pointer (some ⟨p, 0, none⟩), .int .i64 0] w8 fun e w' => ∃ na cap, e = .returned (.tuple #[.slice na 4096 cap, .int .i64 0]) ∧ Told w8 w' na 4096 (upd z0 9 7) ∧ DU (Bes w b) w' p 1 (pT (upd z0 9 7)) [] ∧ Fr (Bes w b) w8 w' := dd_read P8 0 (by decide)
  have H8 : Hid (Kp w w8) := F8.kp H7.out (fun i hi => hi.1)
  clear P8 F8 H7
  go_wp2_with fail
  with_reducible refine k8.mono ?_
  rintro e w9 ⟨na, cap, rfl, T9, P9, F9⟩
  clear k8
  obtain ⟨b9, rfl, _, q9⟩ := T9.2 (by omega)
  have d9 := q9.cell 9 (by omega)
  rw [Nat.zero_add, upd_same, show (((7 : Nat)) : Int) = 7 from rfl] at d9
  have k9 := dd_free P9
  rw [show ((1 : Nat) : Int) - (tkn (pT (upd z0 9 7)) 1 : Nat) = 0 from rfl] at k9
  have H9 : Hid (Kp w w9 ∧ DU (Bes w b) w9 p 1 (pT (upd z0 9 7)) []) := ⟨F9.kp H8.out (fun i hi => hi.1), P9⟩
  clear P9 F9 H8 T9 q9
  go_wp2_with fail
  with_reducible refine k9.mono ?_
  rintro e w10 ⟨rfl, D10⟩
  clear k9
  have P10 := H9.out.2.kp D10.kp
  have k10 : Calls Try.prog 11 #[.pointer (some ⟨p, 0, none⟩), .int .i64 0] w10 fun e w' => e = .returned (.int .i64 0) ∧ DU (Bes w b) w' p 1 (offT (pT (upd z0 9 7)) 0) [] ∧ Fr (Bes w b) w10 w' := dd_give P10 0 (by decide)
  have H10 : Hid (Kp w w10) := H9.out.1.trans D10.kp
  clear P10 D10 H9
  go_wp2_with fail
  with_reducible refine k10.mono ?_
  rintro e w11 ⟨rfl, P11, F11⟩
  clear k10
  have k11 : Calls Try.prog 11 #[.pointer (some ⟨p, 0, none⟩), .int .i64 0] w11 fun e w' => e = .returned (.int .i64 23) ∧ DU (Bes w b) w' p 1 (offT (pT (upd z0 9 7)) 0) [] ∧ Fr (Bes w b) w11 w' := dd_give P11 0 (by decide)
  have H11 : Hid (Kp w w11) := F11.kp H10.out (fun i hi => hi.1)
  clear P11 F11 H10
  go_wp2_with fail
  with_reducible refine k11.mono ?_
  rintro e w12 ⟨rfl, P12, F12⟩
  clear k11
  have k12 : Calls Try.prog 22 #[.pointer (some ⟨p, 0, none⟩)] w12 fun e w' => e = .returned (.int .i64 0) ∧ w' = w12 := dd_left P12
  have H12 : Hid (Kp w w12) := F12.kp H11.out (fun i hi => hi.1)
  clear P12 F12 H11
  go_wp2_with (go_at_call 22; with_reducible refine k12.mono ?_; rintro e w' ⟨rfl, rfl⟩)
  go_ret
  exact ⟨rfl, H12.out⟩

end Go.Proofs.Ytcgfifihkbiioaa
