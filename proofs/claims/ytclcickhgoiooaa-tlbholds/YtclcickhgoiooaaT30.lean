/- TlbFirst: its walk. -/
import Derived.Test.YtclcickhgoiooaaT12
import Derived.Test.YtclcickhgoiooaaT13
import Derived.Test.YtclcickhgoiooaaT28
import Derived.Test.YtclcickhgoiooaaT29
import Derived.Deep.RegionHeld3
namespace Go.Proofs.Ytclcickhgoiooaa
open Go.RowKit
set_option maxRecDepth 10000

structure FZt (W w : World) (b g s k B : Nat) (vl : Value) (T : Nat → PC) (pl : List LN) : Prop where
  tp : TP w b g s k T
  ll : LL w B vl pl
  k : Kp W w
  hg : W.heap.size ≤ g
  hB : W.heap.size ≤ B
  bB : b < B
  gB : g < B
  lw : B ≤ w.heap.size
theorem FZt.kp {W w w' : World} {b g s k B : Nat} {vl : Value} {T : Nat → PC} {pl : List LN} (h : FZt W w b g s k B vl T pl) (f : Kp w w') : FZt W w' b g s k B vl T pl := ⟨h.tp.kp f, h.ll.kp f, h.k.trans f, h.hg, h.hB, h.bB, h.gB, Nat.le_trans h.lw f.size⟩
theorem FZt.st {W w w' : World} {b g s k B : Nat} {vl : Value} {T T' : Nat → PC} {pl : List LN} (h : FZt W w b g s k B vl T pl) (t : TP w' b g s k T') (f : Fr (· = g) w w') : FZt W w' b g s k B vl T' pl :=
  ⟨t, h.ll.fr f (fun x h1 _ h3 => by have := h.gB; omega), f.kp h.k (fun x hx => by have := h.hg; omega), h.hg, h.hB, h.bB, h.gB, Nat.le_trans h.lw f.size⟩

theorem fz_A {W w3 w4 : World} {b g s k B b13 : Nat} {vl : Value} {T T' : Nat → PC} {pl : List LN} {t : TypeId} {V : List Value} (h : FZt W w3 b g s k B vl T pl) (X : RX w3 b13 t V) (n : b13 ≠ g) (lo : LN) (F : Fr (· = g) w3.drew w4) (T4 : TP w4 b g s k T') :
    FZt W (w4.alloc (.cells (encL lo).toArray 54)) b g s k B vl T' pl ∧ RX (w4.alloc (.cells (encL lo).toArray 54)) b13 t V ∧ RX (w4.alloc (.cells (encL lo).toArray 54)) w4.heap.size 54 (encL lo) :=
  ⟨((h.kp (Kp.refl w3).drew).st T4 F).kp ((Kp.refl w4).alloc _), (((X.kp (Kp.refl w3).drew).fr F n).kp ((Kp.refl w4).alloc _)), RX.made w4 _ _⟩
theorem fz_B {W w3 w4 : World} {b g s k B b13 : Nat} {vl : Value} {T T' : Nat → PC} {pl : List LN} {t : TypeId} {V : List Value} {O : Obj} (h : FZt W w3 b g s k B vl T pl) (X : RX w3 b13 t V) (n : b13 ≠ g) (lo : LN) (F : Fr (· = g) (w3.alloc O).drew w4) (T4 : TP w4 b g s k T') (Y : RX w4 w3.heap.size 54 (encL zL)) (gb : g < w3.heap.size) :
    FZt W (putR w4 w3.heap.size 0 (encL lo)) b g s k B vl T' pl ∧ RX (putR w4 w3.heap.size 0 (encL lo)) b13 t V ∧ RX (putR w4 w3.heap.size 0 (encL lo)) w3.heap.size 54 (encL lo) := by
  have K : Kp w3 (w3.alloc O).drew := ((Kp.refl w3).alloc O).drew
  have h4 := (h.kp K).st T4 F
  have F8 : Fr (· = w3.heap.size) w4 (putR w4 w3.heap.size 0 (encL lo)) := putR_fr _ _ _ _
  have bl := h.tp.bl
  have x1 := X.lt
  have FF : Fr (fun x => x = g ∨ x = w3.heap.size) w3 (putR w4 w3.heap.size 0 (encL lo)) := ((K.fr _).trans (F.mono fun _ _ e => .inl e)).trans (F8.mono fun _ _ e => .inr e)
  have l8 : LL (putR w4 w3.heap.size 0 (encL lo)) B vl pl := ⟨h.ll.ol.fr FF (fun x hx c => by have := h.ll.up x hx; have := h.gB; omega), fun x hx => ⟨(h.ll.up x hx).1, Nat.lt_of_lt_of_le (h.ll.up x hx).2 FF.size⟩⟩
  exact ⟨⟨h4.tp.fr F8 (by omega) (by omega), l8, F8.kp h4.k (fun i hi => by have := h.k.size; omega), h.hg, h.hB, h.bB, h.gB, Nat.le_trans h.lw FF.size⟩, (((X.kp K).fr F n).fr F8 (by omega)), Y.put (U := encL lo) rfl⟩

theorem sets_pow (a : Int) : ∃ (m e s : Nat), bits .and .i64 a 7 = (m : Int) ∧ (m : Int).tmod 7 = (e : Int) ∧ m ≤ 7 ∧ e ≤ 6 ∧ (2 : Int) ^ e = (s : Int) ∧ pwB (s : Int) = true := by
  obtain ⟨m, h1, h2⟩ := and_lim a 7 (by decide)
  refine ⟨m, m % 7, 2 ^ (m % 7), h1, by rfl, h2, by omega, by simp, ?_⟩
  rcases (by omega : m = 0 ∨ m = 1 ∨ m = 2 ∨ m = 3 ∨ m = 4 ∨ m = 5 ∨ m = 6 ∨ m = 7) with rfl | rfl | rfl | rfl | rfl | rfl | rfl | rfl <;> rfl

end Go.Proofs.Ytclcickhgoiooaa
