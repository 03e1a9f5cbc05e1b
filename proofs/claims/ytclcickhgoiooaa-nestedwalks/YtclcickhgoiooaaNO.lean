/- demesnelaw14: World: what is laid ahead of the edits. -/
import Derived.Test.YtclcickhgoiooaaNN
import Derived.Test.YtclcickhgoiooaaEE
import Derived.Deep.RegionHeld3
import Derived.Deep.CutRange
import Derived.Deep.DeepCutAuto
import Derived.Deep.CutBlock
namespace Go.Proofs.Ytclcickhgoiooaa
open Go.RowKit
set_option maxRecDepth 10000

/-- What is laid: the tables, the second stage's pages, the first one's. -/
def lay1 : Nat → Nat → Nat → Nat
  | 0 => fun _ _ => 0
  | i + 1 => updM (updM (lay1 i) (i + 1) 0 (dencN 2 i 1 ((i + 2) * 4096) false false false 0)) (frN i) 0 (dencN 1 i 1 ((i + 1) * 4096) false false false 0)
def lay2 : Nat → Nat → Nat → Nat
  | 0 => lay1 3
  | p + 1 => updM (lay2 p) 4 p (dencN 2 3 3 (frN p * 4096) true (p % 5 != 4) (p % 3 != 2) 0)
def lay3 : Nat → Nat → Nat → Nat
  | 0 => lay2 24
  | p + 1 => updM (lay3 p) (frN 3) p (dencN 1 3 3 ((p + 4) * 4096) true (p % 4 != 3) (p % 7 != 1) 0)

/-- The state of World: the memory's box c, the box of all permissions (where it is there). -/
structure WS (W : World) (X : Nat → Prop) (c p o : Nat) (M : Nat → Nat → Nat) (w : World) : Prop where
  ww : WW W X p o M w
  box : RX w c 24 [.pointer (some ⟨p, 0, none⟩)]
  xc : X c
  cl : W.heap.size ≤ c
section
variable {W w w' : World} {X : Nat → Prop} {c p o : Nat} {M : Nat → Nat → Nat}
theorem WS.kp (h : WS W X c p o M w) (k : Kp w w') : WS W X c p o M w' := ⟨h.ww.kp k, h.box.kp k, h.xc, h.cl⟩
theorem WS.put (h : WS W X c p o M w) (x i v a : Nat) (ha : a = x * 4096 + 8 * i) (hx : x < 40) (hi : i < 512) (hv : v < 18446744073709551616) (ho : o < 4000000000000000000) :
    Calls Try.prog 22 #[.int .u64 (a : Int), .int .u64 (v : Int), .pointer (some ⟨c, 0, none⟩)] w fun e w' => e = .returned (.bool true) ∧ WS W X c p (o + 1) (updM M x i v) w' ∧ Fr (OuX W X) w w' := by
  subst ha
  exact (put_any h.ww h.box x i v hx hi hv ho).mono fun e w' ⟨e1, e2, e3⟩ => ⟨e1, ⟨e2, h.box.fr e3 (fun c => c.2 h.xc), h.xc, h.cl⟩, e3⟩
theorem WS.more (h : WS W X c p o M w) (k : Kp w w') (b : Nat) (hb : w.heap.size ≤ b) (hl : b < w'.heap.size) : WS W (fun i => X i ∨ i = b) c p o M w' := ⟨h.ww.more k b hb hl, h.box.kp k, .inl h.xc, h.cl⟩
theorem WS.less {Y : Nat → Prop} (h : WS W X c p o M w) (hY : ∀ i, Y i → X i) (hc : Y c) : WS W Y c p o M w := ⟨h.ww.less hY, h.box, hc, h.cl⟩
theorem WS.le (h : WS W X c p o M w) {o' : Nat} (ho : o ≤ o') : WS W X c p o' M w := ⟨h.ww.le ho, h.box, h.xc, h.cl⟩
end

/-- A list of edits that came in. -/
structure EV where
  wh : Int
  ix : Int
  d : DV
  raw : Bool
  u : Nat
def encE (e : EV) : List Value := [.int .i64 e.wh, .int .i64 e.ix, .int .i64 e.d.k, .int .u64 (e.d.a : Int), .bool e.d.r, .bool e.d.q, .bool e.d.x, .int .i64 e.d.f, .bool e.raw, .int .u64 (e.u : Int)]
def ES (w : World) (na : Option Addr) (n : Nat) (V : Nat → EV) : Prop := ∀ i, i < n → (∃ b o, na = some ⟨b, o, none⟩ ∧ b < w.heap.size ∧ ∀ j y, (encE (V i))[j]? = some y → w.cell? ⟨b, o + i * 10 + j, none⟩ = some y) ∧ (V i).d.a < 18446744073709551616 ∧ (V i).u < 18446744073709551616
theorem ES.kp {w w' : World} {na : Option Addr} {n : Nat} {V : Nat → EV} (h : ES w na n V) (k : Kp w w') : ES w' na n V := fun i hi => by
  obtain ⟨⟨b, o, h1, h2, h3⟩, h4⟩ := h i hi
  exact ⟨⟨b, o, h1, Nat.lt_of_lt_of_le h2 k.size, fun j y hy => (k.cell (p := ⟨b, o + i * 10 + j, none⟩) h2).trans (h3 j y hy)⟩, h4⟩

set_option maxHeartbeats 16000000 in
theorem world_any (na : Option Addr) (n cap : Nat) (V : Nat → EV) (w : World) (H : ES w na n V) :
    Calls Try.prog 5 #[.slice na n cap] w fun e w' => ∃ p M, e = .returned (.tuple #[.pointer (some ⟨p, 0, none⟩), .bool true]) ∧ WW w (fun _ => False) p 100 M w' ∧ (n = 0 → M = lay3 16) := by
  have kn := new_ok 40 w (by decide) (by decide)
  rw [show ((40 : Nat) : Int) = 40 from rfl] at kn
  have HH : Hid (ES w na n V) := H
  clear H
  go_enter Try.func5, Try.ntmps5
  go_wp2_with fail
  with_reducible refine kn.mono ?_
  rintro e w1 ⟨p, S, rfl, P1, K1, S1⟩
  have B1 := RX.made w1 24 [.pointer (some ⟨p, 0, none⟩)]
  have HW : Hid (WS w (· = w1.heap.size) w1.heap.size p 0 (lay1 0) (w1.alloc (.cells #[.pointer (some ⟨p, 0, none⟩)] 24))) :=
    ⟨⟨S, _, by funext x i; exact numb_zero _ _, ⟨0, Nat.le_refl _, P1.kp ((Kp.refl _).alloc _)⟩, fun i hi => ⟨S1 i hi, fun e => by have := P1.own i hi; omega⟩, fun i e => by subst e; simp, K1.alloc _⟩, B1, rfl, K1.size⟩
  clear kn P1 S1 B1 K1
  go_upto_block 0 with fail
  go_cut [7] (fun v7 wx => v7 = .bool true ∧ Hid (WS w (· = w1.heap.size) w1.heap.size p 6 (lay1 3) wx))
  case first =>
    go_wp2_with fail
    go_loopg [7, 8] 5 (fun g v7 v8 wr => ∃ i : Nat, v7 = .bool true ∧ v8 = .int .i64 (i : Int) ∧ i ≤ 3 ∧ 4 - i ≤ g ∧ Hid (WS w (· = w1.heap.size) w1.heap.size p (2 * i) (lay1 i) wr))
    case atStart => exact ⟨0, rfl, rfl, by omega, by omega, HW⟩
    case round =>
      clear HW
      obtain ⟨i, rfl, rfl, hi, hg, HI⟩ := hrel
      by_cases ei : i < 3
      · have z2 : (i : Int) < 3 := by omega
        have k1 := fun w => lword_any 2 i 1 ((i + 2) * 4096) false false false 0 w
        have k2 := fun w => lword_any 1 i 1 ((i + 1) * 4096) false false false 0 w
        have k3 := fun w => lframe_any i (by omega) w
        have fl := frN_lt i
        have a1 : IntKind.u64.wrap ((i : Int) + 1) = (i : Int) + 1 := by simp [IntKind.wrap, IntKind.bits, IntKind.signed]; omega
        have a2 : IntKind.u64.wrap (((i : Int) + 1) * 4096) = (((i + 1) * 4096 : Nat) : Int) := by simp [IntKind.wrap, IntKind.bits, IntKind.signed]; omega
        have a3 : IntKind.u64.wrap ((i : Int) + 2) = (i : Int) + 2 := by simp [IntKind.wrap, IntKind.bits, IntKind.signed]; omega
        have a4 : IntKind.u64.wrap (((i : Int) + 2) * 4096) = (((i + 2) * 4096 : Nat) : Int) := by simp [IntKind.wrap, IntKind.bits, IntKind.signed]; omega
        have a5 : IntKind.u64.wrap ((frN i : Nat) : Int) = ((frN i : Nat) : Int) := by simp [IntKind.wrap, IntKind.bits, IntKind.signed]; omega
        have a6 : IntKind.u64.wrap (((frN i : Nat) : Int) * 4096) = ((frN i * 4096 : Nat) : Int) := by simp [IntKind.wrap, IntKind.bits, IntKind.signed]; omega
        have HK : Aside (∀ v v1 v2 a b, Kp wr v → a = (i + 1) * 4096 → b = frN i * 4096 → (Calls Try.prog 22 #[.int .u64 (a : Int), .int .u64 (dencN 2 i 1 ((i + 2) * 4096) false false false 0 : Nat), .pointer (some ⟨w1.heap.size, 0, none⟩)] v fun e w' => e = .returned (.bool true) ∧ Hid (WS w (· = w1.heap.size) w1.heap.size p (2 * i + 1) (updM (lay1 i) (i + 1) 0 (dencN 2 i 1 ((i + 2) * 4096) false false false 0)) w')) ∧ (Hid (WS w (· = w1.heap.size) w1.heap.size p (2 * i + 1) (updM (lay1 i) (i + 1) 0 (dencN 2 i 1 ((i + 2) * 4096) false false false 0)) v1) → Kp v1 v2 → Calls Try.prog 22 #[.int .u64 (b : Int), .int .u64 (dencN 1 i 1 ((i + 1) * 4096) false false false 0 : Nat), .pointer (some ⟨w1.heap.size, 0, none⟩)] v2 fun e w' => e = .returned (.bool true) ∧ Hid (WS w (· = w1.heap.size) w1.heap.size p (2 * (i + 1)) (lay1 (i + 1)) w'))) := fun v v1 v2 a b kv ha hb =>
          ⟨((HI.out.kp kv).put (i + 1) 0 _ a (by omega) (by omega) (by omega) (den_lt _ _ _ _ _ _ _ _) (by omega)).mono fun e w' ⟨e1, e2, _⟩ => ⟨e1, e2⟩, fun h1 kv => ((h1.out.kp kv).put (frN i) 0 _ b (by omega) (by omega) (by omega) (den_lt _ _ _ _ _ _ _ _) (by omega)).mono fun e w' ⟨e1, e2, _⟩ => ⟨e1, e2⟩⟩
        generalize dencN 2 (i : Int) 1 ((i + 2) * 4096) false false false 0 = u1 at *
        generalize dencN 1 (i : Int) 1 ((i + 1) * 4096) false false false 0 = u2 at *
        generalize hA1 : (i + 1) * 4096 = A1 at *
        generalize (i + 2) * 4096 = A2 at *
        generalize hA3 : frN i * 4096 = A3 at *
        clear HI fl
        go_wp2_with fail
        with_reducible refine (k1 _).mono ?_
        rintro _ w2 ⟨rfl, K2⟩
        go_wp2_with fail
        with_reducible refine (HK.out w2 w2 w2 A1 A3 K2 rfl rfl).1.mono ?_
        rintro _ w3 ⟨rfl, H3⟩
        go_wp2_with (first | (go_at_call 25; with_reducible refine (k3 _).mono ?_; rintro _ w' ⟨rfl, rfl⟩))
        with_reducible refine (k2 _).mono ?_
        rintro _ w4 ⟨rfl, K4⟩
        go_wp2_with fail
        with_reducible refine ((HK.out _ _ w4 A1 A3 K2 rfl rfl).2 H3 K4).mono ?_
        rintro _ w5 ⟨rfl, H5⟩
        clear k1 k2 k3 HK H3 K4 K2
        go_wp2_with fail
        go_roundg (4 - (i + 1))
        case measure => omega
        case rel => exact ⟨i + 1, rfl, rfl, by omega, by omega, H5⟩
      · have ei : i = 3 := by omega
        subst ei
        go_wp2_with fail
        go_meet
        exact ⟨rfl, HI⟩
  case rest =>
    obtain ⟨rfl, HW2⟩ := hcut
    clear HW
    have ka := all_any
    go_wp2_with fail
    with_reducible refine (ka _).mono ?_
    rintro _ w3 ⟨rfl, K3⟩
    clear ka
    have HW3 : Hid (WS w (fun i => i = w1.heap.size ∨ i = w3.heap.size) w1.heap.size p (6 + 0) (lay2 0) (w3.alloc (.cells #[.bool true, .bool true, .bool true] 31)) ∧ PX (w3.alloc (.cells #[.bool true, .bool true, .bool true] 31)) w3.heap.size true true true) := by
      exact ⟨(HW2.out.kp K3).more ((Kp.refl w3).alloc _) w3.heap.size (Nat.le_refl _) (by simp), PX.made w3 _ _ _⟩
    clear HW2 K3
    go_upto_block 2 with fail
    go_cut [7] (fun v7 wx => v7 = .bool true ∧ Hid (WS w (fun i => i = w1.heap.size ∨ i = w3.heap.size) w1.heap.size p 30 (lay2 24) wx ∧ PX wx w3.heap.size true true true))
    case first =>
      go_wp2_with fail
      go_loopg [7, 10] 26 (fun g v7 vi wr => ∃ i : Nat, v7 = .bool true ∧ vi = .int .i64 (i : Int) ∧ i ≤ 24 ∧ 25 - i ≤ g ∧ Hid (WS w (fun i => i = w1.heap.size ∨ i = w3.heap.size) w1.heap.size p (6 + i) (lay2 i) wr ∧ PX wr w3.heap.size true true true))
      case atStart => exact ⟨0, rfl, rfl, by omega, by omega, HW3⟩
      case round =>
        clear HW3
        obtain ⟨i, rfl, rfl, hi, hg, HI⟩ := hrel
        by_cases ei : i < 24
        · have z2 : (i : Int) < 24 := by omega
          have p0 := HI.out.2.c0
          have p1 := HI.out.2.c1
          have p2 := HI.out.2.c2
          obtain ⟨q1, hq1⟩ : ∃ q1, (i % 5 != 4) = q1 := ⟨_, rfl⟩
          obtain ⟨x1, hx1⟩ : ∃ x1, (i % 3 != 2) = x1 := ⟨_, rfl⟩
          have b1 : ((i : Int).tmod 5 != 4) = q1 := by rw [← hq1, Int.tmod_eq_emod_of_nonneg (by omega), Bool.eq_iff_iff, bne_iff_ne, bne_iff_ne]; omega
          have b2 : ((i : Int).tmod 3 != 2) = x1 := by rw [← hx1, Int.tmod_eq_emod_of_nonneg (by omega), Bool.eq_iff_iff, bne_iff_ne, bne_iff_ne]; omega
          have b3 : ((i : Int) % 5 != 4) = q1 := by rw [← hq1, Bool.eq_iff_iff, bne_iff_ne, bne_iff_ne]; omega
          have b4 : ((i : Int) % 3 != 2) = x1 := by rw [← hx1, Bool.eq_iff_iff, bne_iff_ne, bne_iff_ne]; omega
          have k1 := fun w => lword_any 2 3 3 (frN i * 4096) true q1 x1 0 w
          have k3 := fun w => lframe_any i (by omega) w
          have fl := frN_lt i
          have a1 : IntKind.u64.wrap (i : Int) = (i : Int) := by simp [IntKind.wrap, IntKind.bits, IntKind.signed]; omega
          have a2 : IntKind.u64.wrap ((i : Int) * 8) = (i : Int) * 8 := by simp [IntKind.wrap, IntKind.bits, IntKind.signed]; omega
          have a3 : IntKind.u64.wrap (16384 + (i : Int) * 8) = ((4 * 4096 + 8 * i : Nat) : Int) := by simp [IntKind.wrap, IntKind.bits, IntKind.signed]; omega
          have a5 : IntKind.u64.wrap ((frN i : Nat) : Int) = ((frN i : Nat) : Int) := by simp [IntKind.wrap, IntKind.bits, IntKind.signed]; omega
          have a6 : IntKind.u64.wrap (((frN i : Nat) : Int) * 4096) = ((frN i * 4096 : Nat) : Int) := by simp [IntKind.wrap, IntKind.bits, IntKind.signed]; omega
          obtain ⟨wv, hwv⟩ : ∃ wv, wv = wr.alloc (.cells #[.bool true, .bool q1, .bool x1] 31) := ⟨_, rfl⟩
          have kv : Kp wr wv := by rw [hwv]; exact (Kp.refl wr).alloc _
          have Pv : PX wv wr.heap.size true q1 x1 := by rw [hwv]; exact PX.made wr _ _ _
          have HP : Aside (∀ v, Kp wv v → PX v wr.heap.size true q1 x1) := fun v k => Pv.kp k
          have HK : Aside (∀ v a, a = 4 * 4096 + 8 * i → Kp wv v → Calls Try.prog 22 #[.int .u64 (a : Int), .int .u64 (dencN 2 3 3 (frN i * 4096) true q1 x1 0 : Nat), .pointer (some ⟨w1.heap.size, 0, none⟩)] v fun e w' => e = .returned (.bool true) ∧ Hid ((WS w (fun i => i = w1.heap.size ∨ i = w3.heap.size) w1.heap.size p (6 + (i + 1)) (lay2 (i + 1)) w' ∧ PX w' w3.heap.size true true true) ∧ PX w' wr.heap.size true q1 x1)) := fun v a ha k => by
            have W2 := HI.out.1.more (kv.trans k) wr.heap.size (Nat.le_refl _) (HP.out v k).lt
            refine (W2.put 4 i _ a (by omega) (by omega) (by omega) (den_lt _ _ _ _ _ _ _ _) (by omega)).mono fun e w' ⟨e1, e2, e3⟩ => ⟨e1, ⟨?_, ?_⟩, ?_⟩
            · have e2 := e2.less (Y := (fun i => i = w1.heap.size ∨ i = w3.heap.size)) (fun i hi => .inl hi) (.inl rfl)
              rw [show lay2 (i + 1) = updM (lay2 i) 4 i (dencN 2 3 3 (frN i * 4096) true q1 x1 0) from by rw [← hq1, ← hx1]; rfl]
              exact e2
            · exact (e3.block w3.heap.size ((HI.out.2.kp (kv.trans k)).lt) (fun c => c.2 (.inl (.inr rfl)))).trans (HI.out.2.kp (kv.trans k))
            · exact (e3.block wr.heap.size (HP.out v k).lt (fun c => c.2 (.inr rfl))).trans (HP.out v k)
          generalize dencN 2 3 3 (frN i * 4096) true q1 x1 0 = u1 at *
          generalize hA : 4 * 4096 + 8 * i = A at *
          generalize (frN i * 4096) = A2 at *
          clear HI fl hq1 hx1
          go_wp2_with fail
          rw [← hwv]
          have S0 := Pv
          clear hwv kv Pv
          go_region_held3 (fun v => v.cell? ⟨wr.heap.size, 0, none⟩ = some (.bool true) ∧ v.cell? ⟨wr.heap.size, 1, none⟩ = some (.bool q1) ∧ v.cell? ⟨wr.heap.size, 2, none⟩ = some (.bool x1)) (first | exact ⟨S0.c0, S0.c1, S0.c2⟩ | exact ⟨S4.c0, S4.c1, S4.c2⟩ | exact ⟨H5.out.2.c0, H5.out.2.c1, H5.out.2.c2⟩ | go_keep)
            (first | (go_at_call 25; with_reducible refine (k3 _).mono ?_; rintro _ w' ⟨rfl, rfl⟩) | (go_at_call 24; with_reducible refine (k1 _).mono ?_; rintro _ w4 ⟨rfl, K4⟩; have K5 : Kp wv w4 := Kp.trans (by first | exact Kp.refl _ | exact (Kp.refl _).drew | exact (Kp.refl _).drewN _) K4; have S4 := HP.out w4 K5) | (go_at_call 22; with_reducible refine (HK.out _ A rfl (by first | exact K5 | exact K5.drew | exact K5.drewN _)).mono ?_; rintro _ w5 ⟨rfl, H5⟩))
          have H6 : Hid (WS w (fun i => i = w1.heap.size ∨ i = w3.heap.size) w1.heap.size p (6 + (i + 1)) (lay2 (i + 1)) w5 ∧ PX w5 w3.heap.size true true true) := H5.out.1
          clear k1 k3 HK HP S0 H5
          go_wp2_with fail
          go_roundg (25 - (i + 1))
          case measure => omega
          case rel => exact ⟨i + 1, rfl, rfl, by omega, by omega, H6⟩
        · have ei : i = 24 := by omega
          subst ei
          go_wp2_with fail
          go_meet
          exact ⟨rfl, HI⟩
    case rest =>
      obtain ⟨rfl, HW4⟩ := hcut
      clear HW3
      go_upto_block 4 with fail
      go_cut [7] (fun v7 wx => v7 = .bool true ∧ Hid (WS w (fun i => i = w1.heap.size ∨ i = w3.heap.size) w1.heap.size p 46 (lay3 16) wx ∧ PX wx w3.heap.size true true true))
      case first =>
        go_wp2_with fail
        go_loopg [7, 12] 18 (fun g v7 vi wr => ∃ i : Nat, v7 = .bool true ∧ vi = .int .i64 (i : Int) ∧ i ≤ 16 ∧ 17 - i ≤ g ∧ Hid (WS w (fun i => i = w1.heap.size ∨ i = w3.heap.size) w1.heap.size p (30 + i) (lay3 i) wr ∧ PX wr w3.heap.size true true true))
        case atStart => exact ⟨0, rfl, rfl, by omega, by omega, HW4⟩
        case round =>
          clear HW4
          obtain ⟨i, rfl, rfl, hi, hg, HI⟩ := hrel
          by_cases ei : i < 16
          · have z2 : (i : Int) < 16 := by omega
            have p0 := HI.out.2.c0
            have p1 := HI.out.2.c1
            have p2 := HI.out.2.c2
            obtain ⟨q1, hq1⟩ : ∃ q1, (i % 4 != 3) = q1 := ⟨_, rfl⟩
            obtain ⟨x1, hx1⟩ : ∃ x1, (i % 7 != 1) = x1 := ⟨_, rfl⟩
            have b1 : ((i : Int).tmod 4 != 3) = q1 := by rw [← hq1, Int.tmod_eq_emod_of_nonneg (by omega), Bool.eq_iff_iff, bne_iff_ne, bne_iff_ne]; omega
            have b2 : ((i : Int).tmod 7 != 1) = x1 := by rw [← hx1, Int.tmod_eq_emod_of_nonneg (by omega), Bool.eq_iff_iff, bne_iff_ne, bne_iff_ne]; omega
            have b3 : ((i : Int) % 4 != 3) = q1 := by rw [← hq1, Bool.eq_iff_iff, bne_iff_ne, bne_iff_ne]; omega
            have b4 : ((i : Int) % 7 != 1) = x1 := by rw [← hx1, Bool.eq_iff_iff, bne_iff_ne, bne_iff_ne]; omega
            have k1 := fun w => lword_any 1 3 3 ((i + 4) * 4096) true q1 x1 0 w
            have k3 := fun w => lframe_any 3 (by decide) w
            have fl := frN_lt 3
            have a0 : IntKind.i64.wrap ((i : Int) + 4) = (i : Int) + 4 := by rw [IntKind.wrap_i64]; omega
            have a1 : IntKind.u64.wrap (i : Int) = (i : Int) := by simp [IntKind.wrap, IntKind.bits, IntKind.signed]; omega
            have a2 : IntKind.u64.wrap ((i : Int) * 8) = (i : Int) * 8 := by simp [IntKind.wrap, IntKind.bits, IntKind.signed]; omega
            have a5 : IntKind.u64.wrap ((frN 3 : Nat) : Int) = ((frN 3 : Nat) : Int) := by simp [IntKind.wrap, IntKind.bits, IntKind.signed]; omega
            have a6 : IntKind.u64.wrap (((frN 3 : Nat) : Int) * 4096) = ((frN 3 * 4096 : Nat) : Int) := by simp [IntKind.wrap, IntKind.bits, IntKind.signed]; omega
            have a7 : IntKind.u64.wrap (((frN 3 * 4096 : Nat) : Int) + (i : Int) * 8) = ((frN 3 * 4096 + 8 * i : Nat) : Int) := by simp [IntKind.wrap, IntKind.bits, IntKind.signed]; omega
            have a8 : IntKind.u64.wrap ((i : Int) + 4) = (i : Int) + 4 := by simp [IntKind.wrap, IntKind.bits, IntKind.signed]; omega
            have a9 : IntKind.u64.wrap (((i : Int) + 4) * 4096) = (((i + 4) * 4096 : Nat) : Int) := by simp [IntKind.wrap, IntKind.bits, IntKind.signed]; omega
            obtain ⟨wv, hwv⟩ : ∃ wv, wv = wr.alloc (.cells #[.bool true, .bool q1, .bool x1] 31) := ⟨_, rfl⟩
            have kv : Kp wr wv := by rw [hwv]; exact (Kp.refl wr).alloc _
            have Pv : PX wv wr.heap.size true q1 x1 := by rw [hwv]; exact PX.made wr _ _ _
            have HP : Aside (∀ v, Kp wv v → PX v wr.heap.size true q1 x1) := fun v k => Pv.kp k
            have HK : Aside (∀ v a, a = frN 3 * 4096 + 8 * i → Kp wv v → Calls Try.prog 22 #[.int .u64 (a : Int), .int .u64 (dencN 1 3 3 ((i + 4) * 4096) true q1 x1 0 : Nat), .pointer (some ⟨w1.heap.size, 0, none⟩)] v fun e w' => e = .returned (.bool true) ∧ Hid ((WS w (fun i => i = w1.heap.size ∨ i = w3.heap.size) w1.heap.size p (30 + (i + 1)) (lay3 (i + 1)) w' ∧ PX w' w3.heap.size true true true) ∧ PX w' wr.heap.size true q1 x1)) := fun v a ha k => by
              have W2 := HI.out.1.more (kv.trans k) wr.heap.size (Nat.le_refl _) (HP.out v k).lt
              refine (W2.put (frN 3) i _ a (by omega) (by omega) (by omega) (den_lt _ _ _ _ _ _ _ _) (by omega)).mono fun e w' ⟨e1, e2, e3⟩ => ⟨e1, ⟨?_, ?_⟩, ?_⟩
              · have e2 := e2.less (Y := (fun i => i = w1.heap.size ∨ i = w3.heap.size)) (fun i hi => .inl hi) (.inl rfl)
                rw [show lay3 (i + 1) = updM (lay3 i) (frN 3) i (dencN 1 3 3 ((i + 4) * 4096) true q1 x1 0) from by rw [← hq1, ← hx1]; rfl]
                exact e2
              · exact (e3.block w3.heap.size ((HI.out.2.kp (kv.trans k)).lt) (fun c => c.2 (.inl (.inr rfl)))).trans (HI.out.2.kp (kv.trans k))
              · exact (e3.block wr.heap.size (HP.out v k).lt (fun c => c.2 (.inr rfl))).trans (HP.out v k)
            generalize dencN 1 3 3 ((i + 4) * 4096) true q1 x1 0 = u1 at *
            generalize hA : frN 3 * 4096 + 8 * i = A at *
            generalize (i + 4) * 4096 = A2 at *
            generalize frN 3 * 4096 = A3 at *
            rw [show ((3 : Nat) : Int) = 3 from rfl] at k3
            clear HI fl hq1 hx1
            go_wp2_with fail
            rw [← hwv]
            have S0 := Pv
            clear hwv kv Pv
            go_region_held3 (fun v => v.cell? ⟨wr.heap.size, 0, none⟩ = some (.bool true) ∧ v.cell? ⟨wr.heap.size, 1, none⟩ = some (.bool q1) ∧ v.cell? ⟨wr.heap.size, 2, none⟩ = some (.bool x1)) (first | exact ⟨S0.c0, S0.c1, S0.c2⟩ | exact ⟨S4.c0, S4.c1, S4.c2⟩ | exact ⟨H5.out.2.c0, H5.out.2.c1, H5.out.2.c2⟩ | go_keep)
              (first | (go_at_call 25; with_reducible refine (k3 _).mono ?_; rintro _ w' ⟨rfl, rfl⟩) | (go_at_call 24; with_reducible refine (k1 _).mono ?_; rintro _ w4 ⟨rfl, K4⟩; have K5 : Kp wv w4 := Kp.trans (by first | exact Kp.refl _ | exact (Kp.refl _).drew | exact (Kp.refl _).drewN _) K4; have S4 := HP.out w4 K5) | (go_at_call 22; with_reducible refine (HK.out _ A rfl (by first | exact K5 | exact K5.drew | exact K5.drewN _)).mono ?_; rintro _ w5 ⟨rfl, H5⟩))
            have H6 : Hid (WS w (fun i => i = w1.heap.size ∨ i = w3.heap.size) w1.heap.size p (30 + (i + 1)) (lay3 (i + 1)) w5 ∧ PX w5 w3.heap.size true true true) := H5.out.1
            clear k1 k3 HK HP S0 H5
            go_wp2_with fail
            go_roundg (17 - (i + 1))
            case measure => omega
            case rel => exact ⟨i + 1, rfl, rfl, by omega, by omega, H6⟩
          · have ei : i = 16 := by omega
            subst ei
            go_wp2_with fail
            go_meet
            exact ⟨rfl, HI⟩
      case rest =>
        obtain ⟨rfl, HW5⟩ := hcut
        clear HW4
        go_upto_block 6 with fail
        go_cut [7] (fun v7 wx => v7 = .bool true ∧ ∃ M, Hid (WS w (fun i => i = w1.heap.size ∨ i = w3.heap.size) w1.heap.size p 60 M wx ∧ (n = 0 → M = lay3 16)))
        case first =>
          go_wp2_with fail
          go_loopg [7, 14] 14 (fun g v7 vi wr => ∃ (i : Nat) (M : Nat → Nat → Nat), v7 = .bool true ∧ vi = .int .i64 (i : Int) ∧ i ≤ 12 ∧ 13 - i ≤ g ∧ Hid (WS w (fun i => i = w1.heap.size ∨ i = w3.heap.size) w1.heap.size p (46 + i) M wr ∧ (n = 0 → M = lay3 16)))
          case atStart => exact ⟨0, _, rfl, rfl, by omega, by omega, HW5.out.1, fun _ => rfl⟩
          case round =>
            clear HW5
            obtain ⟨i, M, rfl, rfl, hi, hg, HI⟩ := hrel
            by_cases hlt : i < n ∧ i < 12
            · have y1 : (i : Int) < n := by omega
              have y2 : (i : Int) < 12 := by omega
              have hn0 : 0 < n := by omega
              obtain ⟨⟨eb, eo, rfl, q1, q2⟩, wa, wu⟩ := HH.out i hlt.1
              have ec := fun (j : Nat) (y : Value) hy => (HI.out.1.ww.k.cell (p := ⟨eb, eo + i * 10 + j, none⟩) q1).trans (q2 j y hy)
              obtain ⟨⟨wh, ix, ⟨dk, da, dr, dq, dx, df⟩, raw, uu⟩, hV⟩ : ∃ e, e = V i := ⟨_, rfl⟩
              rw [← hV] at ec wa wu
              replace wa : da < 18446744073709551616 := wa
              replace wu : uu < 18446744073709551616 := wu
              have c0 : wr.cell? ⟨eb, eo + i * 10, none⟩ = some (.int .i64 wh) := ec 0 _ rfl
              have c1 := ec 1 _ rfl
              have c2 := ec 2 _ rfl
              have c3 := ec 3 _ rfl
              have c4 := ec 4 _ rfl
              have c5 := ec 5 _ rfl
              have c6 := ec 6 _ rfl
              have c7 := ec 7 _ rfl
              have c8 := ec 8 _ rfl
              have c9 := ec 9 _ rfl
              obtain ⟨m, hm, hm7⟩ := and_lim wh 7 (by decide)
              obtain ⟨lv, hlv, hl3⟩ := and_lim (m : Int) 3 (by decide)
              obtain ⟨kx, hkx, hk5⟩ := and_lim ix 511 (by decide)
              rw [show ((7 : Nat) : Int) = 7 from rfl] at hm
              rw [show ((3 : Nat) : Int) = 3 from rfl] at hlv
              rw [show ((511 : Nat) : Int) = 511 from rfl] at hkx
              have f1 : (m : Int) ≤ 7 := by omega
              have f2 : (lv : Int) ≤ 3 := by omega
              have f3 : (kx : Int) ≤ 511 := by omega
              clear ec hV q1 q2
              by_cases c : 3 < m
              · have g1 : (3 : Int) < m := by omega
                have kf := fun w => lframe_any lv (by omega) w
                have fl := frN_lt lv
                have fl2 : (frN lv : Int) < 32 := by omega
                have HK : Aside (∀ (v : World) (uv : Nat), uv < 18446744073709551616 → Kp wr v → Calls Try.prog 22 #[.int .u64 ((frN lv : Int) * 4096 + 8 * (kx : Int)), .int .u64 (uv : Int), .pointer (some ⟨w1.heap.size, 0, none⟩)] v fun e w' => e = .returned (.bool true) ∧ ∃ M', Hid (WS w (fun i => i = w1.heap.size ∨ i = w3.heap.size) w1.heap.size p (46 + (i + 1)) M' w' ∧ (n = 0 → M' = lay3 16))) := fun v uv hv kv => by
                  have h := (HI.out.1.kp kv).put (frN lv) kx uv _ rfl (by omega) (by omega) hv (by omega)
                  rw [show (((frN lv) * 4096 + 8 * kx : Nat) : Int) = (frN lv : Int) * 4096 + 8 * (kx : Int) by omega] at h
                  exact h.mono fun e w' ⟨e1, e2, _⟩ => ⟨e1, _, e2, fun h0 => absurd hn0 (by omega)⟩
                generalize frN lv = fx at *
                clear HI
                cases raw
                · obtain ⟨dk', da', dr', dq', dx', df', hd', kn⟩ := near_any 1 lv dk da dr dq dx df (isPl_iff.2 (by omega)) wa
                  go_wp2_with (go_at_call 25; with_reducible refine (kf _).mono ?_; rintro _ w' ⟨rfl, rfl⟩)
                  with_reducible refine (kn _).mono ?_
                  rintro _ w5 ⟨rfl, K5⟩
                  clear kn
                  have k2 := fun w => lword_any 1 lv dk' da' dr' dq' dx' df' w
                  have k3 := fun w => lword_any 1 lv dk' (da' / 4096 % 45 * 4096) dr' dq' dx' df' w
                  have l2 := den_lt 1 lv dk' da' dr' dq' dx' df'
                  have l3 := den_lt 1 lv dk' (da' / 4096 % 45 * 4096) dr' dq' dx' df'
                  generalize dencN 1 lv dk' da' dr' dq' dx' df' = z2 at *
                  generalize dencN 1 lv dk' (da' / 4096 % 45 * 4096) dr' dq' dx' df' = z3 at *
                  simp only [show ((da' / 4096 % 45 * 4096 : Nat) : Int) = (da' : Int) / 4096 % 45 * 4096 by omega] at k3
                  go_wp2_with fail
                  all_goals
                    first
                      | with_reducible refine (k2 _).mono ?_
                        rintro _ w6 ⟨rfl, K6⟩
                        have kp := HK.out w6 z2 l2 ((K5.trans ((Kp.refl _).alloc _)).trans K6)
                      | with_reducible refine (k3 _).mono ?_
                        rintro _ w6 ⟨rfl, K6⟩
                        have kp := HK.out w6 z3 l3 ((K5.trans ((Kp.refl _).alloc _)).trans K6)
                    clear k2 k3 HK K5 K6
                    go_wp2_with fail
                    with_reducible refine kp.mono ?_
                    rintro _ w7 ⟨rfl, M', H7⟩
                    clear kp
                    go_wp2_with fail
                    go_roundg (13 - (i + 1))
                    case measure => omega
                    case rel => exact ⟨i + 1, M', rfl, rfl, by omega, by omega, H7⟩
                · have k1 := fun v kv => HK.out v uu wu kv
                  go_wp2_with (go_at_call 25; with_reducible refine (kf _).mono ?_; rintro _ w' ⟨rfl, rfl⟩)
                  with_reducible refine (k1 _ (Kp.refl _)).mono ?_
                  rintro _ w5 ⟨rfl, M', H5⟩
                  clear k1 HK
                  go_wp2_with fail
                  go_roundg (13 - (i + 1))
                  case measure => omega
                  case rel => exact ⟨i + 1, M', rfl, rfl, by omega, by omega, H5⟩
              · have g1 : ¬ (3 : Int) < m := by omega
                have HK : Aside (∀ (v : World) (uv : Nat), uv < 18446744073709551616 → Kp wr v → Calls Try.prog 22 #[.int .u64 (((m : Int) + 1) * 4096 + 8 * (kx : Int)), .int .u64 (uv : Int), .pointer (some ⟨w1.heap.size, 0, none⟩)] v fun e w' => e = .returned (.bool true) ∧ ∃ M', Hid (WS w (fun i => i = w1.heap.size ∨ i = w3.heap.size) w1.heap.size p (46 + (i + 1)) M' w' ∧ (n = 0 → M' = lay3 16))) := fun v uv hv kv => by
                  have h := (HI.out.1.kp kv).put (m + 1) kx uv _ rfl (by omega) (by omega) hv (by omega)
                  rw [show (((m + 1) * 4096 + 8 * kx : Nat) : Int) = ((m : Int) + 1) * 4096 + 8 * (kx : Int) by omega] at h
                  exact h.mono fun e w' ⟨e1, e2, _⟩ => ⟨e1, _, e2, fun h0 => absurd hn0 (by omega)⟩
                clear HI
                cases raw
                · obtain ⟨dk', da', dr', dq', dx', df', hd', kn⟩ := near_any 2 lv dk da dr dq dx df (isPl_iff.2 (by omega)) wa
                  go_wp2_with fail
                  with_reducible refine (kn _).mono ?_
                  rintro _ w5 ⟨rfl, K5⟩
                  clear kn
                  have k2 := fun w => lword_any 2 lv dk' da' dr' dq' dx' df' w
                  have k3 := fun w => lword_any 2 lv dk' (da' / 4096 % 45 * 4096) dr' dq' dx' df' w
                  have l2 := den_lt 2 lv dk' da' dr' dq' dx' df'
                  have l3 := den_lt 2 lv dk' (da' / 4096 % 45 * 4096) dr' dq' dx' df'
                  generalize dencN 2 lv dk' da' dr' dq' dx' df' = z2 at *
                  generalize dencN 2 lv dk' (da' / 4096 % 45 * 4096) dr' dq' dx' df' = z3 at *
                  simp only [show ((da' / 4096 % 45 * 4096 : Nat) : Int) = (da' : Int) / 4096 % 45 * 4096 by omega] at k3
                  go_wp2_with fail
                  all_goals
                    first
                      | with_reducible refine (k2 _).mono ?_
                        rintro _ w6 ⟨rfl, K6⟩
                        have kp := HK.out w6 z2 l2 ((K5.trans ((Kp.refl _).alloc _)).trans K6)
                      | with_reducible refine (k3 _).mono ?_
                        rintro _ w6 ⟨rfl, K6⟩
                        have kp := HK.out w6 z3 l3 ((K5.trans ((Kp.refl _).alloc _)).trans K6)
                    clear k2 k3 HK K5 K6
                    go_wp2_with fail
                    with_reducible refine kp.mono ?_
                    rintro _ w7 ⟨rfl, M', H7⟩
                    clear kp
                    go_wp2_with fail
                    go_roundg (13 - (i + 1))
                    case measure => omega
                    case rel => exact ⟨i + 1, M', rfl, rfl, by omega, by omega, H7⟩
                · have k1 := fun v kv => HK.out v uu wu kv
                  go_wp2_with fail
                  with_reducible refine (k1 _ (Kp.refl _)).mono ?_
                  rintro _ w5 ⟨rfl, M', H5⟩
                  clear k1 HK
                  go_wp2_with fail
                  go_roundg (13 - (i + 1))
                  case measure => omega
                  case rel => exact ⟨i + 1, M', rfl, rfl, by omega, by omega, H5⟩
            · have hx : ¬ ((i : Int) < n ∧ (i : Int) < 12) := by omega
              have HF : Hid (WS w (fun i => i = w1.heap.size ∨ i = w3.heap.size) w1.heap.size p 60 M wr ∧ (n = 0 → M = lay3 16)) := ⟨HI.out.1.le (by omega), HI.out.2⟩
              by_cases h1 : (i : Int) < n
              · have h2 : ¬ (i : Int) < 12 := fun h => hx ⟨h1, h⟩
                clear hx
                go_wp2_with fail
                go_meet
                exact ⟨rfl, M, HF⟩
              · clear hx
                go_wp2_with fail
                go_meet
                exact ⟨rfl, M, HF⟩
        case rest =>
          obtain ⟨rfl, M, HW6⟩ := hcut
          clear HW5
          have c0 := HW6.out.1.box.cell (j := 0) rfl
          have HF : Hid (WW w (fun _ => False) p 100 M _ ∧ (n = 0 → M = lay3 16)) := ⟨(HW6.out.1.ww.less (fun _ h => h.elim)).le (by omega), HW6.out.2⟩
          clear HW6
          go_wp2
          go_ret2
          exact ⟨p, M, rfl, HF.out.1, HF.out.2⟩

end Go.Proofs.Ytclcickhgoiooaa
