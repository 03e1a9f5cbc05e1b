/- slices.Sort of []uint64: breakPatterns. -/
import Derived.Test.YthkkcnnlfjchaaaDoorJ5
import Derived.Test.YthkkcnnlfjchaaaDoorU1
namespace Go.Proofs.YthkkcnnlfjchaaaDoor
open Go.RowKit Go.Sort

section
variable {w0 W : World} {g : Nat} {d0 d : Array Int}
theorem someW (x : Int) : ∃ m : Nat, IntKind.u64.wrap x = (m : Int) ∧ m < 18446744073709551616 := by
  refine ⟨(x % 18446744073709551616).toNat, ?_, ?_⟩
  · simp [IntKind.wrap, IntKind.bits, IntKind.signed]
    omega
  · omega
theorem someU (o : BinOp) (x y : Int) : ∃ m : Nat, bits o .u64 x y = (m : Int) ∧ m < 18446744073709551616 := by
  unfold bits
  exact someW _
set_option maxRecDepth 100000 in
set_option maxHeartbeats 4000000 in
theorem npow_any (l : Nat) (w : World) (h0 : 1 ≤ l) (hl : l ≤ 1000000) : Calls Tryd.prog 48 #[.int .i64 (l : Int)] w fun e w' => ∃ M : Nat, e = .returned (.int .u64 (M : Int)) ∧ 1 ≤ M ∧ M ≤ 2 * l ∧ w' = w := by
  have c1 := len_any l w (by omega)
  obtain ⟨k, hk⟩ : ∃ k, k = lg l := ⟨_, rfl⟩
  rw [← hk] at c1
  have z1 : IntKind.u64.wrap (l : Int) = (l : Int) := by rw [IntKind.wrap_u64]; omega
  have hm := lg_le (v := l) (n := 20) (by omega)
  have hp : 2 ^ k ≤ 2 * l := by
    rw [hk]
    unfold lg
    rw [if_neg (by omega), Nat.pow_succ]
    have := Nat.log2_self_le (show l ≠ 0 by omega)
    omega
  have hp1 := Nat.two_pow_pos k
  obtain ⟨M, hM⟩ : ∃ M, M = 2 ^ k := ⟨_, rfl⟩
  rw [← hM] at hp hp1
  have z2 : IntKind.u64.wrap (2 ^ k) = (M : Int) := by
    rw [show ((2 : Int) ^ k) = ((2 ^ k : Nat) : Int) from (Int.natCast_pow 2 k).symm, ← hM, IntKind.wrap_u64]
    omega
  have HK : Hid (1 ≤ M ∧ M ≤ 2 * l) := ⟨by omega, hp⟩
  have bk : (k : Int) ≤ 20 := by omega
  clear hk hm hp hp1 hM
  go_enter Tryd.func48, Tryd.ntmps48
  go_wp2_with (go_at_call 35; with_reducible refine c1.mono ?_; rintro e w' ⟨rfl, rfl⟩)
  go_ret
  exact ⟨M, rfl, HK.out.1, HK.out.2, rfl⟩
/-- A world of the sort with the random numbers' state in c. -/
structure XU (w0 : World) (g : Nat) (d0 d : Array Int) (c : Nat) (W : World) : Prop where
  su : SU w0 g d0 d W
  ct : ∃ s : Nat, W.cell? ⟨c, 0, none⟩ = some (.int .u64 (s : Int)) ∧ s < 18446744073709551616
  fz : W.frozen? ⟨c, 0, none⟩ = false
  up : w0.heap.size ≤ c
theorem XU.set {c : Nat} (h : XU w0 g d0 d c W) (s : Nat) (hs : s < 18446744073709551616) : XU w0 g d0 d c (W.setCell ⟨c, 0, none⟩ (.int .u64 (s : Int))).drew := by
  obtain ⟨t, ht, _⟩ := h.ct
  exact ⟨(h.su.new c 0 _ h.up).drw, ⟨s, World.cell?_setCell_same' _ _ _ (by rw [ht]; rfl), hs⟩, by show World.frozen? (W.setCell _ _) _ = _; rw [World.frozen?_setCell]; exact h.fz, h.up⟩
theorem XU.cell {c : Nat} (h : XU w0 g d0 d c W) (i j : Nat) (hi : i < d.size) (hj : j < d.size) : XU w0 g d0 (swp d i j) c ((W.setCell ⟨g, i, none⟩ (.int .u64 d[j]!)).setCell ⟨g, j, none⟩ (.int .u64 d[i]!)).drew := by
  have hne : c ≠ g := fun e => by have := h.up; have := h.su.gl; omega
  obtain ⟨s, hs, hl⟩ := h.ct
  refine ⟨h.su.swap i j hi hj, ⟨s, ?_, hl⟩, ?_, h.up⟩
  · show ((W.setCell ⟨g, i, none⟩ _).setCell ⟨g, j, none⟩ _).cell? _ = _
    rw [World.cell?_setCell_other _ _ _ _ (by intro e; simp only [Addr.mk.injEq] at e; exact hne e.1.symm), World.cell?_setCell_other _ _ _ _ (by intro e; simp only [Addr.mk.injEq] at e; exact hne e.1.symm)]
    exact hs
  · show ((W.setCell ⟨g, i, none⟩ _).setCell ⟨g, j, none⟩ _).frozen? _ = _
    rw [World.frozen?_setCell, World.frozen?_setCell]
    exact h.fz
set_option maxRecDepth 100000 in
set_option maxHeartbeats 4000000 in
theorem next_any {c : Nat} (S : XU w0 g d0 d c W) : Calls Tryd.prog 49 #[.pointer (some ⟨c, 0, none⟩)] W fun e W' => ∃ v : Nat, e = .returned (.int .u64 (v : Int)) ∧ v < 18446744073709551616 ∧ XU w0 g d0 d c W' := by
  obtain ⟨s, h, _⟩ := S.ct
  have hf := S.fz
  obtain ⟨m1, e1, _⟩ := someW ((s : Int) * 8192)
  obtain ⟨x1, e2, l1⟩ := someU .xor (s : Int) (m1 : Int)
  obtain ⟨m2, e3⟩ : ∃ m2 : Nat, (x1 : Int) / 128 = (m2 : Int) := ⟨x1 / 128, by omega⟩
  obtain ⟨x2, e4, l2⟩ := someU .xor (x1 : Int) (m2 : Int)
  obtain ⟨m3, e5, _⟩ := someW ((x2 : Int) * 131072)
  obtain ⟨x3, e6, l3⟩ := someU .xor (x2 : Int) (m3 : Int)
  have S1 := S.set x1 l1
  have H1 := hid_is S
  clear S
  go_enter Tryd.func49, Tryd.ntmps49
  go_wp2_with fail
  go_region
  have c1 : ((W.setCell ⟨c, 0, none⟩ (.int .u64 (x1 : Int))).drew).cell? ⟨c, 0, none⟩ = some (.int .u64 (x1 : Int)) := World.cell?_setCell_same' _ _ _ (by rw [h]; rfl)
  have f1 := S1.fz
  have H2 := hid_is S1
  clear S1 h hf H1
  generalize (W.setCell ⟨c, 0, none⟩ (.int .u64 (x1 : Int))).drew = w1 at *
  have S2 := H2.out.set x2 l2
  go_wp2_with fail
  go_region
  have c2 : ((w1.setCell ⟨c, 0, none⟩ (.int .u64 (x2 : Int))).drew).cell? ⟨c, 0, none⟩ = some (.int .u64 (x2 : Int)) := World.cell?_setCell_same' _ _ _ (by rw [c1]; rfl)
  have f2 := S2.fz
  have H3 := hid_is S2
  clear S2 c1 f1 H2
  generalize (w1.setCell ⟨c, 0, none⟩ (.int .u64 (x2 : Int))).drew = w2 at *
  have S3 := H3.out.set x3 l3
  go_wp2_with fail
  go_region
  have c3 : ((w2.setCell ⟨c, 0, none⟩ (.int .u64 (x3 : Int))).drew).cell? ⟨c, 0, none⟩ = some (.int .u64 (x3 : Int)) := World.cell?_setCell_same' _ _ _ (by rw [c2]; rfl)
  have H4 := hid_is S3
  clear S3 c2 f2 H3
  generalize (w2.setCell ⟨c, 0, none⟩ (.int .u64 (x3 : Int))).drew = w3 at *
  have HL := hid_is l3
  go_wp2_with fail
  go_ret
  exact ⟨x3, rfl, HL.out, H4.out⟩
set_option maxRecDepth 100000 in
set_option maxHeartbeats 8000000 in
theorem breakU_any (S : SU w0 g d0 d W) (a b cap n : Nat) (hn : n = d.size) (hab : a + 12 < b) (hb : b ≤ n) (hl : n ≤ 1000000) :
    Calls Tryd.prog 38 #[.slice (some ⟨g, 0, none⟩) n cap, .int .i64 (a : Int), .int .i64 (b : Int)] W fun e W' => e = .returned (.tuple #[]) ∧ ∃ d', SU w0 g d0 d' W' ∧ PermIn a b d d' := by
  obtain ⟨l, hl0⟩ : ∃ l, l = b - a := ⟨_, rfl⟩
  obtain ⟨q, hq⟩ : ∃ q, q = l / 4 := ⟨_, rfl⟩
  obtain ⟨q2, hq2⟩ : ∃ q2, q2 = q * 2 := ⟨_, rfl⟩
  obtain ⟨j, hj⟩ : ∃ j, j = a + q2 := ⟨_, rfl⟩
  obtain ⟨i0, hi0⟩ : ∃ i0, i0 = j - 1 := ⟨_, rfl⟩
  obtain ⟨i1, hi1⟩ : ∃ i1, i1 = j + 1 := ⟨_, rfl⟩
  have zl : (b : Int) - (a : Int) = (l : Int) := by omega
  have zq : (l : Int).tdiv 4 = (q : Int) := by rw [Int.tdiv_eq_ediv_of_nonneg (by omega)]; omega
  have z2 : (q : Int) * 2 = (q2 : Int) := by omega
  have zj : (a : Int) + (q2 : Int) = (j : Int) := by omega
  have zi0 : (j : Int) - 1 = (i0 : Int) := by omega
  have zi1 : (j : Int) + 1 = (i1 : Int) := by omega
  have bl : (l : Int) ≤ 1000000 := by omega
  have l8 : (8 : Int) ≤ (l : Int) := by omega
  have bq2 : (q2 : Int) ≤ 1000000 := by omega
  have bq1 : (q : Int) ≤ 1000000 := by omega
  have bj : (j : Int) ≤ 1000000 := by omega
  have bi0 : (i0 : Int) ≤ 1000000 := by omega
  have bi1 : (i1 : Int) ≤ 1000001 := by omega
  have zu : IntKind.u64.wrap (l : Int) = (l : Int) := by rw [IntKind.wrap_u64]; omega
  have C1 := fun w => npow_any l w (by omega) (by omega)
  have HA : Hid (n = d.size ∧ b ≤ n ∧ n ≤ 1000000) := ⟨hn, hb, hl⟩
  have HB : Hid (a ≤ i0 ∧ i1 < b ∧ i1 = i0 + 2 ∧ l = b - a ∧ a + 12 < b) := ⟨by omega, by omega, by omega, hl0, hab⟩
  have HS := hid_is S
  have S0 : XU w0 g d0 d W.heap.size (W.alloc (.cells #[.int .u64 (l : Int)] 75)) := ⟨S.al _, ⟨l, by simp, by omega⟩, by simp, S.le⟩
  have H0 := hid_is S0
  clear S hl0 hq hq2 hj hi0 hi1 hn hab hb S0
  go_enter Tryd.func38, Tryd.ntmps38
  go_wp2_with fail
  with_reducible refine (C1 _).mono ?_
  rintro e w1 ⟨M, rfl, m1, m2, rfl⟩
  clear C1
  obtain ⟨M1, hM1⟩ : ∃ M1, M1 = M - 1 := ⟨_, rfl⟩
  have zM : (M : Int) - 1 = (M1 : Int) := by omega
  have HM : Hid (M1 < 2 * l ∧ M1 < 18446744073709551616) := ⟨by omega, by omega⟩
  have wM : IntKind.u64.wrap (M1 : Int) = (M1 : Int) := by rw [IntKind.wrap_u64]; omega
  clear m1 m2 hM1
  go_wp2_with fail
  go_loopg [9, 10] 3 (fun g1 vi vo wr => ∃ (i : Nat) (dk : Array Int), vi = .int .i64 (i : Int) ∧ i0 ≤ i ∧ i ≤ i1 + 1 ∧ i1 + 1 - i ≤ g1 ∧ Hid (XU w0 g d0 dk W.heap.size wr ∧ PermIn a b d dk))
  case atStart => exact ⟨i0, d, rfl, by omega, by have := HB.out; omega, by have := HB.out; omega, (show _ ∧ _ from ⟨H0.out, permIn_refl _ _ _⟩)⟩
  case round =>
    obtain ⟨i, dk, rfl, hi, hi2, hg1, HI⟩ := hrel
    by_cases hle : (i : Int) ≤ (i1 : Int)
    · have C2 := next_any HI.out.1
      go_wp2_with fail
      with_reducible refine C2.mono ?_
      rintro e w2 ⟨v, rfl, lv, S2⟩
      clear C2
      obtain ⟨r, hr⟩ : ∃ r, r = v &&& M1 := ⟨_, rfl⟩
      have er : bits .and .u64 (v : Int) (M1 : Int) = (r : Int) := by rw [hr]; exact u64_and_nat v M1 lv HM.out.2
      have hr2 : r < 2 * l := by
        have : r ≤ M1 := by rw [hr]; exact Nat.and_le_right
        have := HM.out.1
        omega
      have br : (r : Int) < 2000001 := by omega
      have zr : IntKind.i64.wrap (r : Int) = (r : Int) := by rw [IntKind.wrap_i64]; omega
      clear hr lv
      by_cases hge : (l : Int) ≤ (r : Int)
      · obtain ⟨o, ho⟩ : ∃ o, o = r - l := ⟨_, rfl⟩
        have zo : (r : Int) - (l : Int) = (o : Int) := by omega
        have hol : o < l := by omega
        have bo : (o : Int) ≤ 1000000 := by omega
        clear ho
        obtain ⟨p, hp⟩ : ∃ p, p = a + o := ⟨_, rfl⟩
        have zp : (a : Int) + (o : Int) = (p : Int) := by omega
        have bp : (p : Int) < (n : Int) := by have := HA.out.2.1; omega
        have bi : (i : Int) < (n : Int) := by have := HA.out.2.1; have := HB.out; omega
        have hsz : dk.size = n := by have h1 := S2.su.sz; have h2 := HS.out.sz; have h3 := HA.out.1; omega
        have hpn : p < dk.size := by omega
        have hin : i < dk.size := by omega
        have HP : Hid (PermIn a b d (swp dk i p)) := permIn_trans _ _ _ _ _ HI.out.2 (swp_permIn _ _ _ _ _ (by have := HB.out; omega) (by have := HB.out; omega) (by omega) (by have := HB.out; omega) (by have := HA.out.2.1; omega))
        clear hp hsz
        obtain ⟨xs, hxs⟩ : ∃ x, x = dk[i]! := ⟨_, rfl⟩
        obtain ⟨ys, hys⟩ : ∃ x, x = dk[p]! := ⟨_, rfl⟩
        have lxs := S2.su.c i hin
        have lys := S2.su.c p hpn
        have zxs := S2.su.z i hin
        have zys := S2.su.z p hpn
        obtain ⟨us, lus⟩ := S2.su.c2 i p hin hpn (.int .u64 dk[p]!)
        have S3 := hid_is (S2.cell i p hin hpn)
        rw [← hxs] at lxs S3
        rw [← hys] at lys lus S3
        clear hxs hys
        go_wp2_with fail
        have mx : Tryd.prog.follows .mixedOrders = true := by kernel_rfl
        go_big_region_o
        clear mx
        clear lxs lys zxs zys lus
        generalize ((w2.setCell ⟨g, i, none⟩ (.int .u64 ys)).setCell ⟨g, p, none⟩ (.int .u64 xs)).drew = w3 at S3 ⊢
        clear HI S2
        go_wp2_with fail
        go_roundg (i1 + 1 - (i + 1))
        case measure => omega
        case rel => exact ⟨i + 1, _, by go_num, by omega, by omega, by omega, (show _ ∧ _ from ⟨S3.out, HP.out⟩)⟩
      · have hol : r < l := by omega
        have br2 : (r : Int) ≤ 1000000 := by omega
        clear br hol
        have hge2 : (r : Int) < (l : Int) := by omega
        go_wp2_with fail
        have hol : r < l := by omega
        clear zr wM zM hr2 er
        obtain ⟨p, hp⟩ : ∃ p, p = a + r := ⟨_, rfl⟩
        have zp : (a : Int) + (r : Int) = (p : Int) := by omega
        have bp : (p : Int) < (n : Int) := by have := HA.out.2.1; omega
        have bi : (i : Int) < (n : Int) := by have := HA.out.2.1; have := HB.out; omega
        have hsz : dk.size = n := by have h1 := S2.su.sz; have h2 := HS.out.sz; have h3 := HA.out.1; omega
        have hpn : p < dk.size := by omega
        have hin : i < dk.size := by omega
        have HP : Hid (PermIn a b d (swp dk i p)) := permIn_trans _ _ _ _ _ HI.out.2 (swp_permIn _ _ _ _ _ (by have := HB.out; omega) (by have := HB.out; omega) (by omega) (by have := HB.out; omega) (by have := HA.out.2.1; omega))
        clear hp hsz
        obtain ⟨xs, hxs⟩ : ∃ x, x = dk[i]! := ⟨_, rfl⟩
        obtain ⟨ys, hys⟩ : ∃ x, x = dk[p]! := ⟨_, rfl⟩
        have lxs := S2.su.c i hin
        have lys := S2.su.c p hpn
        have zxs := S2.su.z i hin
        have zys := S2.su.z p hpn
        obtain ⟨us, lus⟩ := S2.su.c2 i p hin hpn (.int .u64 dk[p]!)
        have S3 := hid_is (S2.cell i p hin hpn)
        rw [← hxs] at lxs S3
        rw [← hys] at lys lus S3
        clear hxs hys
        go_wp2_with fail
        have mx : Tryd.prog.follows .mixedOrders = true := by kernel_rfl
        go_big_region_o
        clear mx
        clear lxs lys zxs zys lus
        generalize ((w2.setCell ⟨g, i, none⟩ (.int .u64 ys)).setCell ⟨g, p, none⟩ (.int .u64 xs)).drew = w3 at S3 ⊢
        clear HI S2
        go_wp2_with fail
        go_roundg (i1 + 1 - (i + 1))
        case measure => omega
        case rel => exact ⟨i + 1, _, by go_num, by omega, by omega, by omega, (show _ ∧ _ from ⟨S3.out, HP.out⟩)⟩
    · go_wp2_with fail
      go_end0
      exact ⟨rfl, _, HI.out.1.su, HI.out.2⟩
end

end Go.Proofs.YthkkcnnlfjchaaaDoor
