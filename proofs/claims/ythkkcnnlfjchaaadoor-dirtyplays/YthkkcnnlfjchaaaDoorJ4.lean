/- slices.Sort of []uint64: heapSort, reverseRange. -/
import Derived.Test.YthkkcnnlfjchaaaDoorJ3
namespace Go.Proofs.YthkkcnnlfjchaaaDoor
open Go.RowKit Go.Sort

section
variable {w0 W : World} {g : Nat} {d0 d : Array Int}
set_option maxRecDepth 100000 in
set_option maxHeartbeats 8000000 in
theorem heapU_any (S : SU w0 g d0 d W) (a b cap n : Nat) (hn : n = d.size) (hab : a ≤ b) (hb : b ≤ n) (hl : n ≤ 1000000) :
    Calls Tryd.prog 37 #[.slice (some ⟨g, 0, none⟩) n cap, .int .i64 (a : Int), .int .i64 (b : Int)] W fun e W' => e = .returned (.tuple #[]) ∧ ∃ d', SU w0 g d0 d' W' ∧ PermIn a b d d' ∧ SortedIn ltInt a b d' := by
  have HS : Hid (SU w0 g d0 d W) := S
  have HN : Hid (n = d.size) := hn
  obtain ⟨m, hm⟩ : ∃ m, m = b - a := ⟨_, rfl⟩
  obtain ⟨k0, hk0⟩ : ∃ k0, k0 = (m - 1) / 2 := ⟨_, rfl⟩
  have zm : (b : Int) - (a : Int) = (m : Int) := by omega
  have zk : ((m : Int) - 1).tdiv 2 = (k0 : Int) := by
    by_cases c : m = 0
    · subst c; subst hk0; rfl
    · rw [Int.tdiv_eq_ediv_of_nonneg (by omega)]; omega
  have bm : a + m ≤ n := by omega
  have bk : k0 ≤ m := by omega
  have HM : Hid (m = b - a ∧ k0 = (m - 1) / 2) := ⟨hm, hk0⟩
  have HQ : Hid (PermIn a b d (heapSort ltInt d a b) ∧ SortedIn ltInt a b (heapSort ltInt d a b)) := heapSort_holds swo_ltInt d a b hab (by omega)
  clear S hn hm hk0
  go_enter Tryd.func37, Tryd.ntmps37
  go_wp2_with fail
  go_loopg [9] (k0 + 1) (fun g1 vi wr => ∃ (k : Nat) (dk : Array Int), vi = .int .i64 ((k : Int) - 1) ∧ k ≤ k0 + 1 ∧ k ≤ g1 ∧ Hid (SU w0 g d0 dk wr ∧ heapBuild ltInt m a k dk = heapBuild ltInt m a (k0 + 1) d))
  case atStart => exact ⟨k0 + 1, d, by go_num, by omega, by omega, (show _ ∧ _ from ⟨HS.out, rfl⟩)⟩
  case round =>
    obtain ⟨k, dk, rfl, hk, hg1, HI⟩ := hrel
    by_cases hk0 : k = 0
    · have zi : (k : Int) - 1 = -1 := by omega
      have HE : Hid (SU w0 g d0 (heapBuild ltInt m a (k0 + 1) d) wr) := by
        rw [← HI.out.2, hk0]; exact HI.out.1
      clear hk0 HI
      go_wp2_with fail
      go_loopg [10] m (fun g2 vi wr => ∃ (k : Nat) (dk : Array Int), vi = .int .i64 ((k : Int) - 1) ∧ k ≤ m ∧ k ≤ g2 ∧ Hid (SU w0 g d0 dk wr ∧ heapPop ltInt a k dk = heapPop ltInt a m (heapBuild ltInt m a (k0 + 1) d)))
      case atStart => exact ⟨m, _, rfl, by omega, by omega, (show _ ∧ _ from ⟨HE.out, rfl⟩)⟩
      case round =>
        clear HE zi hk hg1
        obtain ⟨k2, dj, rfl, hk2, hg2, HJ⟩ := hrel
        by_cases hk0 : k2 = 0
        · have zi : (k2 : Int) - 1 = -1 := by omega
          have HE : Hid (SU w0 g d0 (heapSort ltInt d a b) wr) := by
            unfold heapSort
            rw [← HM.out.1, ← HM.out.2, ← HJ.out.2, hk0]
            exact HJ.out.1
          clear hk0 HJ
          go_wp2_with fail
          go_end0
          exact ⟨rfl, _, HE.out, HQ.out.1, HQ.out.2⟩
        · obtain ⟨q, hq⟩ : ∃ q, k2 = q + 1 := ⟨k2 - 1, by omega⟩
          have HK : Hid (k2 = q + 1) := hq
          obtain ⟨p, hp⟩ : ∃ p, p = a + q := ⟨_, rfl⟩
          have zi : (k2 : Int) - 1 = (q : Int) := by omega
          have zp : (a : Int) + (q : Int) = (p : Int) := by omega
          have bp : (p : Int) < (n : Int) := by omega
          have ba : (a : Int) < (n : Int) := by omega
          have hsz : dj.size = n := by have h1 := HJ.out.1.sz; have h2 := HS.out.sz; have h3 := HN.out; omega
          have hpn : p < dj.size := by omega
          have han : a < dj.size := by omega
          have HP : Hid (p = a + q) := hp
          have HZ : Hid (dj.size = n) := hsz
          clear hq hk0 hp hsz
          obtain ⟨xs, hxs⟩ : ∃ x, x = dj[a]! := ⟨_, rfl⟩
          obtain ⟨ys, hys⟩ : ∃ x, x = dj[p]! := ⟨_, rfl⟩
          have lxs := HJ.out.1.c a han
          have lys := HJ.out.1.c p hpn
          have zxs := HJ.out.1.z a han
          have zys := HJ.out.1.z p hpn
          obtain ⟨us, lus⟩ := HJ.out.1.c2 a p han hpn (.int .u64 dj[p]!)
          have S3 := hid_is (HJ.out.1.swap a p han hpn)
          rw [← hxs] at lxs S3
          rw [← hys] at lys lus S3
          clear hxs hys
          go_wp2_with fail
          have mx : Tryd.prog.follows .mixedOrders = true := by kernel_rfl
          go_big_region_o
          clear mx
          clear lxs lys zxs zys lus
          generalize ((wr.setCell ⟨g, a, none⟩ (.int .u64 ys)).setCell ⟨g, p, none⟩ (.int .u64 xs)).drew = w3 at S3 ⊢

          have cs := siftU_any S3.out 0 q a cap n (by rw [size_swp]; exact HZ.out.symm) (by have := HK.out; omega) hl (by omega)
          rw [show ((0 : Nat) : Int) = 0 from rfl] at cs
          have HR : Hid (heapPop ltInt a q (siftDown ltInt q a 0 (swp dj a p)) = heapPop ltInt a m (heapBuild ltInt m a (k0 + 1) d)) := by
            show _ = _
            rw [← HJ.out.2, HK.out, HP.out]
            rfl
          clear HJ S3
          go_wp2_with (go_at_call 47; with_reducible refine cs.mono ?_; rintro e w5 ⟨rfl, S5⟩)
          go_roundg q
          case measure => have := HK.out; omega
          case rel => exact ⟨q, _, by go_num, by have := HK.out; omega, by omega, (show _ ∧ _ from ⟨S5, HR.out⟩)⟩
    · obtain ⟨q, hq⟩ : ∃ q, k = q + 1 := ⟨k - 1, by omega⟩
      have HK : Hid (k = q + 1) := hq
      have zi : (k : Int) - 1 = (q : Int) := by omega
      have hsz : dk.size = n := by have h1 := HI.out.1.sz; have h2 := HS.out.sz; have h3 := HN.out; omega
      have cs := siftU_any HI.out.1 q m a cap n hsz.symm bm hl (by omega)
      have HR : Hid (heapBuild ltInt m a q (siftDown ltInt m a q dk) = heapBuild ltInt m a (k0 + 1) d) := by
        show _ = _
        rw [← HI.out.2, HK.out]
        rfl
      clear HI hq hk0 hsz
      go_wp2_with (go_at_call 47; with_reducible refine cs.mono ?_; rintro e w5 ⟨rfl, S5⟩)
      go_roundg q
      case measure => have := HK.out; omega
      case rel => exact ⟨q, _, by go_num, by have := HK.out; omega, by omega, (show _ ∧ _ from ⟨S5, HR.out⟩)⟩
set_option maxRecDepth 100000 in
set_option maxHeartbeats 8000000 in
theorem revU_any (S : SU w0 g d0 d W) (a b cap n : Nat) (hn : n = d.size) (hab : a < b) (hb : b ≤ n) (hl : n ≤ 1000000) :
    Calls Tryd.prog 40 #[.slice (some ⟨g, 0, none⟩) n cap, .int .i64 (a : Int), .int .i64 (b : Int)] W fun e W' => e = .returned (.tuple #[]) ∧ ∃ d', SU w0 g d0 d' W' ∧ PermIn a b d d' := by
  have HS : Hid (SU w0 g d0 d W) := S
  have HN : Hid (n = d.size) := hn
  obtain ⟨m, hm⟩ : ∃ m, b = m + 1 := ⟨b - 1, by omega⟩
  have zm : (b : Int) - 1 = (m : Int) := by omega
  have HM : Hid (b = m + 1) := hm
  clear S hn hm
  go_enter Tryd.func40, Tryd.ntmps40
  go_wp2_with fail
  go_loopg [6, 7] b (fun g1 vi vj wr => ∃ (i j : Nat) (dk : Array Int), vi = .int .i64 (i : Int) ∧ vj = .int .i64 (j : Int) ∧ a ≤ i ∧ j < b ∧ j ≤ g1 ∧ i ≤ j + 1 ∧ Hid (SU w0 g d0 dk wr ∧ PermIn a b d dk))
  case atStart => exact ⟨a, m, d, rfl, rfl, by omega, by have := HM.out; omega, by have := HM.out; omega, by have := HM.out; omega, (show _ ∧ _ from ⟨HS.out, permIn_refl _ _ _⟩)⟩
  case round =>
    obtain ⟨i, j, dk, rfl, rfl, hi, hj, hg1, hij, HI⟩ := hrel
    by_cases c : i < j
    · have zc : (i : Int) < (j : Int) := by omega
      have hsz : dk.size = n := by have h1 := HI.out.1.sz; have h2 := HS.out.sz; have h3 := HN.out; omega
      have bi : (i : Int) < (n : Int) := by omega
      have bj : (j : Int) < (n : Int) := by omega
      have hin : i < dk.size := by omega
      have hjn : j < dk.size := by omega
      obtain ⟨q, hq⟩ : ∃ q, j = q + 1 := ⟨j - 1, by omega⟩
      have HQ : Hid (j = q + 1 ∧ dk.size = n) := ⟨hq, hsz⟩
      have zj : (j : Int) - 1 = (q : Int) := by omega
      clear hq hsz
      obtain ⟨xs, hxs⟩ : ∃ x, x = dk[i]! := ⟨_, rfl⟩
      obtain ⟨ys, hys⟩ : ∃ x, x = dk[j]! := ⟨_, rfl⟩
      have lxs := HI.out.1.c i hin
      have lys := HI.out.1.c j hjn
      have zxs := HI.out.1.z i hin
      have zys := HI.out.1.z j hjn
      obtain ⟨us, lus⟩ := HI.out.1.c2 i j hin hjn (.int .u64 dk[j]!)
      have S3 := hid_is (HI.out.1.swap i j hin hjn)
      rw [← hxs] at lxs S3
      rw [← hys] at lys lus S3
      clear hxs hys
      go_wp2_with fail
      have mx : Tryd.prog.follows .mixedOrders = true := by kernel_rfl
      go_big_region_o
      clear mx
      clear lxs lys zxs zys lus
      generalize ((wr.setCell ⟨g, i, none⟩ (.int .u64 ys)).setCell ⟨g, j, none⟩ (.int .u64 xs)).drew = w3 at S3 ⊢

      have HR : Hid (PermIn a b d (swp dk i j)) := permIn_trans _ _ _ _ _ HI.out.2 (swp_permIn _ _ _ _ _ hi (by omega) (by omega) hj (by have := HQ.out.2; omega))
      clear HI
      go_wp2_with fail
      go_roundg q
      case measure => have := HQ.out.1; omega
      case rel => exact ⟨i + 1, q, _, by go_num, rfl, by omega, by have := HQ.out.1; omega, by omega, by have := HQ.out.1; omega, (show _ ∧ _ from ⟨S3.out, HR.out⟩)⟩
    · have zc : ¬ (i : Int) < (j : Int) := by omega
      go_wp2_with fail
      go_end0
      exact ⟨rfl, _, HI.out.1, HI.out.2⟩
end

end Go.Proofs.YthkkcnnlfjchaaaDoor
