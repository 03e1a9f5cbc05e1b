/- PhysApart: the walk. -/
import Derived.Test.YtndlkkacnpjlmaaP11
namespace Go.Proofs.Ytndlkkacnpjlmaa
open Go.RowKit Go.Maps

theorem or_byte (V c : Nat) (hV : V < 72057594037927936) (hc : c < 256) : bits .or .u64 ((V : Int) * 256) (c : Int) = ((V * 256 + c : Nat) : Int) := by
  have h := u64_or_nat (V * 256) c (by omega) (by omega)
  have := Nat.shiftLeft_add_eq_or_of_lt (i := 8) (show c < 2 ^ 8 from hc) V
  rw [Nat.shiftLeft_eq, show (2 : Nat) ^ 8 = 256 from rfl] at this
  rw [← this] at h
  rw [← h]
  congr 1

/-- What holds at each round: two memories, a page, and all that lay. -/
structure Apart (w wr : World) (S1 S2 : Nat → Prop) (p1 p2 B c : Nat) (F : Nat → Nat → Nat) (f : Nat → Nat) : Prop where
  m1 : PM wr S1 p1 4 c F
  m2 : PM wr S2 p2 4 c (fun _ => z0)
  pg : BS wr B 0 4096 f
  kp : Kp w wr
structure Sets (w : World) (S1 S2 : Nat → Prop) (B : Nat) : Prop where
  d : ∀ i, S1 i → ¬ S2 i
  n1 : ¬ S1 B
  n2 : ¬ S2 B
  b1 : ∀ i, S1 i → w.heap.size ≤ i
  b2 : ∀ i, S2 i → w.heap.size ≤ i

theorem apart_reads {w wr : World} {S1 S2 : Nat → Prop} {p1 p2 B c k q : Nat} {F : Nat → Nat → Nat} {f : Nat → Nat} (h : Apart w wr S1 S2 p1 p2 B c F f) (s : Sets w S1 S2 B) (hk : k < 4) (hq : q + 8 ≤ 4096) (h8 : q % 8 = 0) (hF : F k = f) (hc : c ≤ 10000) (A : Int) (hA : A = ((k * 4096 + q : Nat) : Int)) :
    Calls Try.prog 11 #[.pointer (some ⟨p1, 0, none⟩), .int .u64 A, .int .i64 8] wr fun e w1 => e = .returned (.tuple #[.int .u64 (numb f q 8 : Nat), .int .i64 0]) ∧
      Calls Try.prog 11 #[.pointer (some ⟨p2, 0, none⟩), .int .u64 A, .int .i64 8] w1 fun e w2 => e = .returned (.tuple #[.int .u64 0, .int .i64 0]) ∧ Apart w w2 S1 S2 p1 p2 B (c + 1) F f := by
  subst hA
  have hch : chkP 4 (k * 4096 + q) 8 = 0 := chkP_in (s := 8) (by unfold Size; omega) (by omega) (by omega)
  have r1 := pread_ok h.m1 (k * 4096 + q) 8 (by omega) hch (by omega)
  rw [show (k * 4096 + q) / 4096 = k by omega, show (k * 4096 + q) % 4096 = q by omega, hF] at r1
  refine r1.mono fun e w1 ⟨e1, P1, F1⟩ => ⟨e1, ?_⟩
  have r2 := pread_ok (h.m2.fr F1 (fun i h2 h1 => s.d i h1 h2)) (k * 4096 + q) 8 (by omega) hch (by omega)
  rw [numb_zero] at r2
  exact r2.mono fun e w2 ⟨e2, P2, F2⟩ => ⟨e2, P1.fr F2 s.d, P2, (h.pg.fr F1 s.n1).fr F2 s.n2, F2.kp (F1.kp h.kp s.b1) s.b2⟩

set_option maxHeartbeats 8000000 in
set_option maxRecDepth 100000 in
theorem apart_any (na nb : Option Addr) (m cap mb capb : Nat) (fa fb : Nat → Int) (fr : Int) (w : World) (NA : NSK .i64 w na m fa) (NB : NSK .u8 w nb mb fb) :
    Calls Try.prog 6 #[.slice na m cap, .slice nb mb capb, .int .i64 fr] w fun e w' => e = .returned (.bool true) ∧ Kp w w' := by
  have hk := mask2 fr
  obtain ⟨k, hk'⟩ : ∃ k : Nat, fr % 4 = (k : Int) := ⟨(fr % 4).toNat, by omega⟩
  have hk4 : k < 4 := by omega
  rw [hk'] at hk
  have z1 : (k : Int) < 4 := by omega
  have AA : Aside (NSK .i64 w na m fa) := NA
  have BB : Aside (NSK .u8 w nb mb fb) := NB
  have k1 : ∀ w, Calls Try.prog 7 #[.int .i64 4] w fun e w' => ∃ p S, e = .returned (.tuple #[.pointer (some ⟨p, 0, none⟩), .int .i64 0]) ∧ PM w' S p 4 0 (fun _ => z0) ∧ Kp w w' ∧ ∀ k, S k → w.heap.size ≤ k := fun w => new_ok 4 w (by omega) (by omega)
  clear NA NB hk'
  go_enter Try.func6, Try.ntmps6
  go_wp2_with fail
  with_reducible refine (k1 _).mono ?_
  rintro e w1 ⟨p1, S1, rfl, P1, K1, H1⟩
  have HP1 : Hid (PM w1 S1 p1 4 0 (fun _ => z0) ∧ Kp w w1 ∧ ∀ k, S1 k → w.heap.size ≤ k) := ⟨P1, K1, H1⟩
  clear P1 K1 H1
  go_wp2_with fail
  with_reducible refine (k1 _).mono ?_
  rintro e w2 ⟨p2, S2, rfl, P2, K2, H2⟩
  have HP2 : Hid (PM w2 S2 p2 4 0 (fun _ => z0) ∧ Kp w1 w2 ∧ ∀ k, S2 k → w1.heap.size ≤ k) := ⟨P2, K2, H2⟩
  have k2 := page_any na nb m cap mb capb fa fb w2 (AA.out.kp (HP1.out.2.1.trans K2)) (BB.out.kp (HP1.out.2.1.trans K2))
  clear P2 K2 H2 AA BB k1
  go_wp2_with fail
  with_reducible refine k2.mono ?_
  rintro e w3 ⟨rfl, ⟨f, B3⟩, Z3, K3⟩
  have P13 := (HP1.out.1.kp HP2.out.2.1).kp K3
  have k3 := pset_ok P13 k (by omega) w2.heap.size 0 4096 f B3.lt B3.cells B3.byte
  have HB : Hid (BS w3 w2.heap.size 0 4096 f ∧ w3.heap.size = w2.heap.size + 1 ∧ Kp w2 w3) := ⟨B3, Z3, K3⟩
  clear k2 B3 Z3 K3 P13
  go_wp2_with fail
  with_reducible refine k3.mono ?_
  rintro e w4 ⟨rfl, S4, P4, F4, L4⟩
  obtain ⟨B, hB⟩ : ∃ B, B = w2.heap.size := ⟨_, rfl⟩
  have hs1 : ∀ i, S1 i → i < w1.heap.size := HP1.out.1.own
  have hsz1 := HP2.out.2.1.size
  have hs2 : ∀ i, S2 i → i < w2.heap.size := HP2.out.1.own
  have hsz2 := HB.out.2.2.size
  have SS : Hid (Sets w S4 S2 B) := ⟨fun i h h' => by
      have a := HP2.out.2.2 i h'; have b := hs2 i h'
      rcases L4 i h with c | c
      · have := hs1 i c; omega
      · omega, fun h => by
      rcases L4 B h with c | c
      · have := hs1 B c; omega
      · have := HB.out.2.1; omega, fun h => by have := hs2 B h; omega, fun i h => by
      rcases L4 i h with c | c
      · exact HP1.out.2.2 i c
      · have := HP1.out.2.1.size; omega, fun i h => by have := HP2.out.2.2 i h; have := HP1.out.2.1.size; omega⟩
  have hn1 : ∀ i, S2 i → ¬ S1 i := fun i h h' => by have := HP2.out.2.2 i h; have := hs1 i h'; omega
  have A0 : Hid (Apart w w4 S4 S2 p1 p2 B 0 (putFr (fun _ => z0) k f) f) := ⟨P4, (HP2.out.1.kp HB.out.2.2).fr F4 hn1, by rw [hB]; exact HB.out.1.fr F4 (fun h => by have := hs1 _ h; omega), F4.kp ((HP1.out.2.1.trans HP2.out.2.1).trans HB.out.2.2) HP1.out.2.2⟩
  have HF : Hid (putFr (fun _ => z0) k f k = f) := putFr_same _ _ _
  obtain ⟨F, hF⟩ : ∃ F, F = putFr (fun _ => z0) k f := ⟨_, rfl⟩
  have HFo : Hid (∀ y, y ≠ k → F y = z0) := (show ∀ y, y ≠ k → F y = z0 from fun y hy => by rw [hF, putFr_other _ _ _ _ hy])
  rw [← hF] at A0 HF
  rw [← hB]
  clear k3 P4 F4 L4 hs1 hs2 hsz1 hsz2 hn1 HP1 HP2 HB hF hB
  go_wp2_with fail
  go_loopg [13] 4097 (fun g v13 wr => ∃ i c : Nat, v13 = .int .i64 (i : Int) ∧ i ≤ 4096 ∧ i % 64 = 0 ∧ 4096 - i ≤ g ∧ c * 8 = i ∧ Hid (Apart w wr S4 S2 p1 p2 B c F f))
  case atStart => exact ⟨0, 0, rfl, by omega, by omega, by omega, by omega, A0⟩
  case round =>
    clear A0
    obtain ⟨i, c, rfl, h1, h2, hg, h3, HA⟩ := hrel
    by_cases hlt : i < 4096
    · have y1 : (i : Int) < 4096 := by omega
      go_wp2_with fail
      go_loopg [14] 9 (fun g v14 wr => ∃ j : Nat, v14 = .int .i64 (j : Int) ∧ j ≤ 8 ∧ 8 - j ≤ g ∧ Hid (Apart w wr S4 S2 p1 p2 B (c + j) F f))
      case atStart => exact ⟨0, rfl, by omega, by omega, HA⟩
      case round =>
        clear HA
        obtain ⟨j, rfl, j1, jg, HA⟩ := hrel
        by_cases hj : j < 8
        · have y2 : (j : Int) < 8 := by omega
          obtain ⟨q, hq⟩ : ∃ q, q = i + 8 * j := ⟨_, rfl⟩
          have y3 : (i : Int) + 8 * (j : Int) = (q : Int) := by omega
          have y4 : (q : Int) ≤ 4088 := by omega
          have k4 := apart_reads HA.out SS.out hk4 (q := q) (by omega) (by omega) HF.out (by omega) ((k : Int) * 4096 + q) (by omega)
          have QQ : Hid (q + 8 ≤ 4096) := (show q + 8 ≤ 4096 by omega)
          clear HA hq
          obtain ⟨V, hV⟩ : ∃ V, V = numb f q 8 := ⟨_, rfl⟩
          rw [← hV] at k4
          have HV : Hid (V = numb f q 8) := hV
          clear hV
          go_wp2_with fail
          with_reducible refine k4.mono ?_
          rintro e w5 ⟨rfl, k5⟩
          clear k4
          go_wp2_with fail
          with_reducible refine k5.mono ?_
          rintro e w6 ⟨rfl, A6⟩
          have HA6 : Hid (Apart w w6 S4 S2 p1 p2 B (c + j + 1) F f) := A6
          clear k5 A6
          go_wp2_with fail
          go_loopg [19, 20] 9 (fun g v19 v20 wq => ∃ o t : Nat, v19 = .int .u64 (numb f (q + o) t : Nat) ∧ v20 = .int .i64 ((o : Int) - 1) ∧ o + t = 8 ∧ o ≤ g ∧ wq = w6)
          case atStart => exact ⟨8, 0, rfl, by go_num, by omega, by omega, rfl⟩
          case round =>
            obtain ⟨o, t, rfl, rfl, ot, og, rfl⟩ := hrel
            match o, ot, og with
            | o + 1, ot, og =>
              have bs := HA6.out.pg
              have c2 := bs.cell (q + o) (by have := QQ.out; omega)
              rw [Nat.zero_add] at c2
              have b2 := bs.byte (q + o)
              have y5 : (o : Int) < 8 := by omega
              have y6 : (f (q + o) : Int) < 256 := by omega
              have l1 := numb_lt bs.byte (q + o + 1) t
              have l2 := Nat.pow_le_pow_right (n := 2) (by decide) (show 8 * t ≤ 56 by omega)
              have l3 : (2 : Nat) ^ 56 = 72057594037927936 := rfl
              have r1 := numb_low f t (q + o)
              have o1 := or_byte (numb f (q + o + 1) t) (f (q + o)) (by omega) b2
              have y7 : (numb f (q + o + 1) t : Int) < 72057594037927936 := by omega
              rw [← r1] at o1
              rw [show ((o + 1 : Nat) : Int) - 1 = (o : Int) by omega, show q + (o + 1) = q + o + 1 by omega]
              obtain ⟨R, hR⟩ : ∃ R, R = numb f (q + o) (t + 1) := ⟨_, rfl⟩
              rw [← hR] at o1
              have HR : Hid (R = numb f (q + o) (t + 1)) := hR
              clear bs b2 l1 l2 l3 r1 hR
              generalize numb f (q + o + 1) t = U at *
              generalize f (q + o) = d at *
              go_wp2
              go_roundg o
              case measure => omega
              case rel => exact ⟨o, t + 1, by rw [HR.out], by go_num, by omega, by omega, rfl⟩
            | 0, ot, og =>
              have e8 : t = 8 := by omega
              subst e8
              rw [Nat.add_zero, ← HV.out]
              go_wp2
              go_roundg (8 - (j + 1))
              case measure => omega
              case rel => exact ⟨j + 1, by go_num, by omega, by omega, HA6⟩
        · have e8 : j = 8 := by omega
          subst e8
          go_wp2
          go_roundg (4096 - (i + 64))
          case measure => omega
          case rel => exact ⟨i + 64, c + 8, by go_num, by omega, by omega, by omega, by omega, HA⟩
    · have e0 : i = 4096 := by omega
      have ec : c = 512 := by omega
      subst e0
      subst ec
      go_wp2_with fail
      with_reducible refine (ptold_any _).mono ?_
      rintro e w7 ⟨rfl, K7⟩
      have P1 := HA.out.m1.kp K7
      have P2 := HA.out.m2.kp K7
      have k5 := pclear_any P2 k (wf_nat (by omega))
      rw [show clearF 4 (fun _ => z0) k = true from by
        unfold clearF
        rw [(hasF_iff 4 k).2 (by omega), alike_of (fun _ _ => rfl)]; rfl] at k5
      have k6 := pops_any P1
      have k7 := pops_any P2
      rw [show ((512 : Nat) : Int) = 512 from rfl] at k6 k7
      have b1 := mask2 ((k : Int) + 1)
      have b2 := mask2 ((k : Int) + 2)
      obtain ⟨x1, hx1⟩ : ∃ x1 : Nat, ((k : Int) + 1) % 4 = (x1 : Int) := ⟨(((k : Int) + 1) % 4).toNat, by omega⟩
      obtain ⟨x2, hx2⟩ : ∃ x2 : Nat, ((k : Int) + 2) % 4 = (x2 : Int) := ⟨(((k : Int) + 2) % 4).toNat, by omega⟩
      rw [hx1] at b1
      rw [hx2] at b2
      have k8 := psame_any P1 x1 x2
      rw [show sameF 4 F x1 x2 = true from by
        unfold sameF
        rw [(hasF_iff 4 x1).2 (by omega), (hasF_iff 4 x2).2 (by omega), show ((x1 : Int)).toNat = x1 from rfl, show ((x2 : Int)).toNat = x2 from rfl, HFo.out x1 (by omega), HFo.out x2 (by omega), alike_of (fun _ _ => rfl)]; rfl] at k8
      have HK7 : Hid (Kp w w7) := HA.out.kp.trans K7
      clear P1 P2 K7 HA hx1 hx2
      go_wp2_with (first | (go_at_call 20; with_reducible refine k5.mono ?_; rintro e w' ⟨rfl, rfl⟩) | (go_at_call 24; with_reducible refine k6.mono ?_; rintro e w' ⟨rfl, rfl⟩) | (go_at_call 24; with_reducible refine k7.mono ?_; rintro e w' ⟨rfl, rfl⟩))
      with_reducible refine k8.mono ?_
      rintro e w8 ⟨rfl, D8⟩
      have HK8 := HK7.out.trans D8.kp
      clear k5 k6 k7 k8 HK7 D8
      have HK9 : Hid _ := HK8
      clear HK8
      go_wp2
      go_ret
      exact ⟨rfl, HK9.out⟩

end Go.Proofs.Ytndlkkacnpjlmaa
