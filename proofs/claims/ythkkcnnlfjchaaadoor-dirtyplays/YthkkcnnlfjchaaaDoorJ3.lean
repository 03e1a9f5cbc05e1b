/- slices.Sort of []uint64: the heap. -/
import Derived.Test.YthkkcnnlfjchaaaDoorJ2
namespace Go.Proofs.YthkkcnnlfjchaaaDoor
open Go.RowKit Go.Sort

section
variable {w0 W : World} {g : Nat} {d0 d : Array Int}
theorem sift_eq (lt : Int → Int → Bool) (hi first r : Nat) (d : Array Int) : siftDown lt hi first r d = if 2 * r + 1 ≥ hi then d else
    (fun c => if (!lt d[first + r]! d[first + c]!) = true then d else siftDown lt hi first c (swp d (first + r) (first + c))) (if (decide (2 * r + 1 + 1 < hi) && lt d[first + (2 * r + 1)]! d[first + (2 * r + 1) + 1]!) = true then 2 * r + 2 else 2 * r + 1) := by
  conv => lhs; unfold siftDown
  by_cases h : 2 * r + 1 ≥ hi
  · rw [dif_pos h, if_pos h]
  · rw [dif_neg h, if_neg h]
    by_cases c : (decide (2 * r + 1 + 1 < hi) && lt d[first + (2 * r + 1)]! d[first + (2 * r + 1) + 1]!) = true
    · rw [if_pos c, if_pos c]
      have h2 : 2 * r + 2 < hi := by
        simp only [Bool.and_eq_true, decide_eq_true_eq] at c
        omega
      dsimp only
      rw [dif_pos h2]
    · rw [if_neg c, if_neg c]
theorem sift_stop {lt : Int → Int → Bool} {hi first r c : Nat} {d : Array Int} (h : 2 * r + 1 < hi) (hc : (if (decide (2 * r + 1 + 1 < hi) && lt d[first + (2 * r + 1)]! d[first + (2 * r + 1) + 1]!) = true then 2 * r + 2 else 2 * r + 1) = c) (hl : lt d[first + r]! d[first + c]! = false) : siftDown lt hi first r d = d := by
  rw [sift_eq, if_neg (by omega), hc]
  dsimp only
  rw [hl]
  rfl
theorem sift_go {lt : Int → Int → Bool} {hi first r c : Nat} {d : Array Int} (h : 2 * r + 1 < hi) (hc : (if (decide (2 * r + 1 + 1 < hi) && lt d[first + (2 * r + 1)]! d[first + (2 * r + 1) + 1]!) = true then 2 * r + 2 else 2 * r + 1) = c) (hl : lt d[first + r]! d[first + c]! = true) : siftDown lt hi first r d = siftDown lt hi first c (swp d (first + r) (first + c)) := by
  rw [sift_eq, if_neg (by omega), hc]
  dsimp only
  rw [hl]
  rfl
set_option maxRecDepth 100000 in
set_option maxHeartbeats 8000000 in
theorem siftU_any (S : SU w0 g d0 d W) (lo hi first cap n : Nat) (hn : n = d.size) (hf : first + hi ≤ n) (hl : n ≤ 1000000) (hlo : lo ≤ n) :
    Calls Tryd.prog 47 #[.slice (some ⟨g, 0, none⟩) n cap, .int .i64 (lo : Int), .int .i64 (hi : Int), .int .i64 (first : Int)] W fun e W' => e = .returned (.tuple #[]) ∧ SU w0 g d0 (siftDown ltInt hi first lo d) W' := by
  have HS : Hid (SU w0 g d0 d W) := S
  have HN : Hid (n = d.size) := hn
  have cl := fun x y w => wless_any x y w
  clear S hn
  go_enter Tryd.func47, Tryd.ntmps47
  go_wp2_with fail
  go_loopg [8, 9] (hi - lo) (fun g1 vi vc wr => ∃ (r : Nat) (dk : Array Int), vi = .int .i64 (r : Int) ∧ r ≤ n ∧ hi - r ≤ g1 ∧ Hid (SU w0 g d0 dk wr ∧ dk.size = n ∧ siftDown ltInt hi first r dk = siftDown ltInt hi first lo d))
  case atStart => exact ⟨lo, d, rfl, by omega, by omega, (show _ ∧ _ ∧ _ from ⟨HS.out, HN.out.symm, rfl⟩)⟩
  case round =>
    obtain ⟨r, dk, rfl, hrn, hg1, HI⟩ := hrel
    obtain ⟨c, hc⟩ : ∃ c, c = 2 * r + 1 := ⟨_, rfl⟩
    have z0 : 2 * (r : Int) + 1 = (c : Int) := by omega
    have b0 : (r : Int) ≤ 1000000 := by omega
    have b9 : (c : Int) ≤ 3000000 := by omega
    have HC : Hid (c = 2 * r + 1) := hc
    by_cases hge : hi ≤ c
    · have gez : (hi : Int) ≤ (c : Int) := by omega
      clear hc
      go_wp2_with fail
      go_end0
      refine ⟨rfl, ?_⟩
      rw [← HI.out.2.2, sift_eq, if_pos (by have := HC.out; omega)]
      exact HI.out.1
    · have gez : ¬ (hi : Int) ≤ (c : Int) := by omega
      obtain ⟨p, hp⟩ : ∃ p, p = first + c := ⟨_, rfl⟩
      obtain ⟨e, he⟩ : ∃ e, e = c + 1 := ⟨_, rfl⟩
      obtain ⟨p2, hp2⟩ : ∃ p2, p2 = p + 1 := ⟨_, rfl⟩
      have z1 : (c : Int) + 1 = (e : Int) := by omega
      have zp : (first : Int) + (c : Int) = (p : Int) := by omega
      have z2 : (p : Int) + 1 = (p2 : Int) := by omega
      have bp : (p : Int) < (n : Int) := by omega
      have hpn : p < dk.size := by have := HI.out.2.1; omega
      have HP : Hid (p = first + c) := hp
      have HE : Hid (e = c + 1 ∧ p2 = p + 1) := ⟨he, hp2⟩
      clear hc
      by_cases hlt : e < hi
      · have ltd : decide ((e : Int) < (hi : Int)) = true := decide_eq_true (by omega)
        have ltz : (e : Int) < (hi : Int) := by omega
        have bp2 : (p2 : Int) < (n : Int) := by omega
        have hpn2 : p2 < dk.size := by have := HI.out.2.1; omega
        clear hp he hp2
        obtain ⟨u, hu⟩ : ∃ x, x = dk[p]! := ⟨_, rfl⟩
        obtain ⟨v, hv⟩ : ∃ x, x = dk[p2]! := ⟨_, rfl⟩
        have lu := HI.out.1.c p hpn
        have lv := HI.out.1.c p2 hpn2
        rw [← hu] at lu
        rw [← hv] at lv
        have Hu : Hid (u = dk[p]! ∧ v = dk[p2]!) := ⟨hu, hv⟩
        clear hu hv

        cases hlv : ltInt u v with
        | true =>
          have zp3 : (first : Int) + (e : Int) = (p2 : Int) := by have := HE.out; have := HP.out; omega
          have HCC : Hid ((if (decide (2 * r + 1 + 1 < hi) && ltInt dk[first + (2 * r + 1)]! dk[first + (2 * r + 1) + 1]!) = true then 2 * r + 2 else 2 * r + 1) = e ∧ p2 = first + e) := by
            have h1 := Hu.out.1
            have h2 := Hu.out.2
            have h3 := HC.out
            have h4 := HE.out
            have h5 := HP.out
            refine ⟨?_, by omega⟩
            rw [show first + (2 * r + 1) = p by omega, show p + 1 = p2 by omega, ← h1, ← h2, hlv, decide_eq_true (show 2 * r + 1 + 1 < hi by omega)]
            exact (if_pos rfl).trans (by omega)
          have cl1 := fun w => cl u v w
          rw [hlv] at cl1
          go_wp2_with fail
          go_quiet (first | (go_at_call 42; refine Calls.quiet_of_same (cl1 _)))
          clear cl1

          clear lu lv hlv Hu ltd
          have SS := hid_is (HI.out.1.dr nq)
          generalize wr.drewN nq = wr at SS ⊢
          obtain ⟨q, hq⟩ : ∃ q, q = first + r := ⟨_, rfl⟩
          have zq : (first : Int) + (r : Int) = (q : Int) := by omega
          have bq : (q : Int) < (n : Int) := by omega
          have hqn : q < dk.size := by have := HI.out.2.1; omega
          have HQ : Hid (q = first + r) := hq
          clear hq

          obtain ⟨x, hx⟩ : ∃ x, x = dk[q]! := ⟨_, rfl⟩
          obtain ⟨y, hy⟩ : ∃ x, x = dk[p2]! := ⟨_, rfl⟩
          have lx := SS.out.c q hqn
          have ly := SS.out.c p2 hpn2
          rw [← hx] at lx
          rw [← hy] at ly
          have Hx : Hid (x = dk[q]! ∧ y = dk[p2]!) := ⟨hx, hy⟩
          clear hx hy

          cases hlv : ltInt x y with
          | false =>
            have cl1 := fun w => cl x y w
            rw [hlv] at cl1
            go_wp2_with fail
            go_quiet (first | (go_at_call 42; refine Calls.quiet_of_same (cl1 _)))
            clear cl1

            have HR : Hid (SU w0 g d0 (siftDown ltInt hi first lo d) (wr.drewN nq)) := by
              have hv := hlv
              rw [Hx.out.1, Hx.out.2, HQ.out, HCC.out.2] at hv
              rw [← HI.out.2.2, sift_stop (by have := HC.out; omega) HCC.out.1 hv]
              exact SS.out.dr nq
            go_wp2_with fail
            first | go_end0 | (refine bodyPost_ret (results_none rfl _ _ _) rfl ?_)
            exact ⟨rfl, HR.out⟩
          | true =>
            have cl1 := fun w => cl x y w
            rw [hlv] at cl1
            go_wp2_with fail
            go_quiet (first | (go_at_call 42; refine Calls.quiet_of_same (cl1 _)))
            clear cl1

            clear lx ly
            have S2 := hid_is (SS.out.dr nq)
            generalize wr.drewN nq = w2 at S2 ⊢
            obtain ⟨xs, hxs⟩ : ∃ x, x = dk[q]! := ⟨_, rfl⟩
            obtain ⟨ys, hys⟩ : ∃ x, x = dk[p2]! := ⟨_, rfl⟩
            have lxs := S2.out.c q hqn
            have lys := S2.out.c p2 hpn2
            have zxs := S2.out.z q hqn
            have zys := S2.out.z p2 hpn2
            obtain ⟨us, lus⟩ := S2.out.c2 q p2 hqn hpn2 (.int .u64 dk[p2]!)
            have S3 := hid_is (S2.out.swap q p2 hqn hpn2)
            rw [← hxs] at lxs S3
            rw [← hys] at lys lus S3
            clear hxs hys
            go_wp2_with fail
            have mx : Tryd.prog.follows .mixedOrders = true := by kernel_rfl
            go_big_region_o
            clear mx
            clear lxs lys zxs zys lus
            generalize ((w2.setCell ⟨g, q, none⟩ (.int .u64 ys)).setCell ⟨g, p2, none⟩ (.int .u64 xs)).drew = w3 at S3 ⊢

            have HR : Hid ((swp dk q p2).size = n ∧ siftDown ltInt hi first e (swp dk q p2) = siftDown ltInt hi first lo d) := by
              refine ⟨by rw [size_swp]; exact HI.out.2.1, ?_⟩
              have hv := hlv
              rw [Hx.out.1, Hx.out.2, HQ.out, HCC.out.2] at hv
              rw [← HI.out.2.2, sift_go (by have := HC.out; omega) HCC.out.1 hv, HQ.out, HCC.out.2]
            clear S2 hlv Hx SS
            go_wp2_with fail
            go_roundg (hi - e)
            case measure => have := HC.out; omega
            case rel => exact ⟨e, swp dk q p2, rfl, by have := HC.out; omega, by have := HC.out; omega, (show _ ∧ _ ∧ _ from ⟨S3.out, HR.out.1, HR.out.2⟩)⟩
        | false =>
          have HCC : Hid ((if (decide (2 * r + 1 + 1 < hi) && ltInt dk[first + (2 * r + 1)]! dk[first + (2 * r + 1) + 1]!) = true then 2 * r + 2 else 2 * r + 1) = c) := by
            have h1 := Hu.out.1
            have h2 := Hu.out.2
            have h3 := HC.out
            have h4 := HE.out
            have h5 := HP.out
            show _ = _
            rw [show first + (2 * r + 1) = p by omega, show p + 1 = p2 by omega, ← h1, ← h2, hlv, Bool.and_false]
            exact (if_neg (by decide)).trans (by omega)
          have cl1 := fun w => cl u v w
          rw [hlv] at cl1
          go_wp2_with fail
          go_quiet (first | (go_at_call 42; refine Calls.quiet_of_same (cl1 _)))
          clear cl1

          clear lu lv hlv Hu ltd
          have SS := hid_is (HI.out.1.dr nq)
          generalize wr.drewN nq = wr at SS ⊢
          obtain ⟨q, hq⟩ : ∃ q, q = first + r := ⟨_, rfl⟩
          have zq : (first : Int) + (r : Int) = (q : Int) := by omega
          have bq : (q : Int) < (n : Int) := by omega
          have hqn : q < dk.size := by have := HI.out.2.1; omega
          have HQ : Hid (q = first + r) := hq
          clear hq

          obtain ⟨x, hx⟩ : ∃ x, x = dk[q]! := ⟨_, rfl⟩
          obtain ⟨y, hy⟩ : ∃ x, x = dk[p]! := ⟨_, rfl⟩
          have lx := SS.out.c q hqn
          have ly := SS.out.c p hpn
          rw [← hx] at lx
          rw [← hy] at ly
          have Hx : Hid (x = dk[q]! ∧ y = dk[p]!) := ⟨hx, hy⟩
          clear hx hy

          cases hlv : ltInt x y with
          | false =>
            have cl1 := fun w => cl x y w
            rw [hlv] at cl1
            go_wp2_with fail
            go_quiet (first | (go_at_call 42; refine Calls.quiet_of_same (cl1 _)))
            clear cl1

            have HR : Hid (SU w0 g d0 (siftDown ltInt hi first lo d) (wr.drewN nq)) := by
              have hv := hlv
              rw [Hx.out.1, Hx.out.2, HQ.out, HP.out] at hv
              rw [← HI.out.2.2, sift_stop (by have := HC.out; omega) HCC.out hv]
              exact SS.out.dr nq
            go_wp2_with fail
            first | go_end0 | (refine bodyPost_ret (results_none rfl _ _ _) rfl ?_)
            exact ⟨rfl, HR.out⟩
          | true =>
            have cl1 := fun w => cl x y w
            rw [hlv] at cl1
            go_wp2_with fail
            go_quiet (first | (go_at_call 42; refine Calls.quiet_of_same (cl1 _)))
            clear cl1

            clear lx ly
            have S2 := hid_is (SS.out.dr nq)
            generalize wr.drewN nq = w2 at S2 ⊢
            obtain ⟨xs, hxs⟩ : ∃ x, x = dk[q]! := ⟨_, rfl⟩
            obtain ⟨ys, hys⟩ : ∃ x, x = dk[p]! := ⟨_, rfl⟩
            have lxs := S2.out.c q hqn
            have lys := S2.out.c p hpn
            have zxs := S2.out.z q hqn
            have zys := S2.out.z p hpn
            obtain ⟨us, lus⟩ := S2.out.c2 q p hqn hpn (.int .u64 dk[p]!)
            have S3 := hid_is (S2.out.swap q p hqn hpn)
            rw [← hxs] at lxs S3
            rw [← hys] at lys lus S3
            clear hxs hys
            go_wp2_with fail
            have mx : Tryd.prog.follows .mixedOrders = true := by kernel_rfl
            go_big_region_o
            clear mx
            clear lxs lys zxs zys lus
            generalize ((w2.setCell ⟨g, q, none⟩ (.int .u64 ys)).setCell ⟨g, p, none⟩ (.int .u64 xs)).drew = w3 at S3 ⊢

            have HR : Hid ((swp dk q p).size = n ∧ siftDown ltInt hi first c (swp dk q p) = siftDown ltInt hi first lo d) := by
              refine ⟨by rw [size_swp]; exact HI.out.2.1, ?_⟩
              have hv := hlv
              rw [Hx.out.1, Hx.out.2, HQ.out, HP.out] at hv
              rw [← HI.out.2.2, sift_go (by have := HC.out; omega) HCC.out hv, HQ.out, HP.out]
            clear S2 hlv Hx SS
            go_wp2_with fail
            go_roundg (hi - c)
            case measure => have := HC.out; omega
            case rel => exact ⟨c, swp dk q p, rfl, by have := HC.out; omega, by have := HC.out; omega, (show _ ∧ _ ∧ _ from ⟨S3.out, HR.out.1, HR.out.2⟩)⟩
      · have ltd : decide ((e : Int) < (hi : Int)) = false := decide_eq_false (by omega)
        have ltz : ¬ (e : Int) < (hi : Int) := by omega
        have HCC : Hid ((if (decide (2 * r + 1 + 1 < hi) && ltInt dk[first + (2 * r + 1)]! dk[first + (2 * r + 1) + 1]!) = true then 2 * r + 2 else 2 * r + 1) = c) := by
          have h3 := HC.out
          show _ = _
          rw [decide_eq_false (show ¬ 2 * r + 1 + 1 < hi by omega), Bool.false_and]
          exact (if_neg (by decide)).trans (by omega)
        clear hp he hp2
        go_wp2_with fail
        go_quiet (fail)
        have SS := hid_is (HI.out.1.dr nq)
        generalize wr.drewN nq = wr at SS ⊢
        obtain ⟨q, hq⟩ : ∃ q, q = first + r := ⟨_, rfl⟩
        have zq : (first : Int) + (r : Int) = (q : Int) := by omega
        have bq : (q : Int) < (n : Int) := by omega
        have hqn : q < dk.size := by have := HI.out.2.1; omega
        have HQ : Hid (q = first + r) := hq
        clear hq

        obtain ⟨x, hx⟩ : ∃ x, x = dk[q]! := ⟨_, rfl⟩
        obtain ⟨y, hy⟩ : ∃ x, x = dk[p]! := ⟨_, rfl⟩
        have lx := SS.out.c q hqn
        have ly := SS.out.c p hpn
        rw [← hx] at lx
        rw [← hy] at ly
        have Hx : Hid (x = dk[q]! ∧ y = dk[p]!) := ⟨hx, hy⟩
        clear hx hy

        cases hlv : ltInt x y with
        | false =>
          have cl1 := fun w => cl x y w
          rw [hlv] at cl1
          go_wp2_with fail
          go_quiet (first | (go_at_call 42; refine Calls.quiet_of_same (cl1 _)))
          clear cl1

          have HR : Hid (SU w0 g d0 (siftDown ltInt hi first lo d) (wr.drewN nq)) := by
            have hv := hlv
            rw [Hx.out.1, Hx.out.2, HQ.out, HP.out] at hv
            rw [← HI.out.2.2, sift_stop (by have := HC.out; omega) HCC.out hv]
            exact SS.out.dr nq
          go_wp2_with fail
          first | go_end0 | (refine bodyPost_ret (results_none rfl _ _ _) rfl ?_)
          exact ⟨rfl, HR.out⟩
        | true =>
          have cl1 := fun w => cl x y w
          rw [hlv] at cl1
          go_wp2_with fail
          go_quiet (first | (go_at_call 42; refine Calls.quiet_of_same (cl1 _)))
          clear cl1

          clear lx ly
          have S2 := hid_is (SS.out.dr nq)
          generalize wr.drewN nq = w2 at S2 ⊢
          obtain ⟨xs, hxs⟩ : ∃ x, x = dk[q]! := ⟨_, rfl⟩
          obtain ⟨ys, hys⟩ : ∃ x, x = dk[p]! := ⟨_, rfl⟩
          have lxs := S2.out.c q hqn
          have lys := S2.out.c p hpn
          have zxs := S2.out.z q hqn
          have zys := S2.out.z p hpn
          obtain ⟨us, lus⟩ := S2.out.c2 q p hqn hpn (.int .u64 dk[p]!)
          have S3 := hid_is (S2.out.swap q p hqn hpn)
          rw [← hxs] at lxs S3
          rw [← hys] at lys lus S3
          clear hxs hys
          go_wp2_with fail
          have mx : Tryd.prog.follows .mixedOrders = true := by kernel_rfl
          go_big_region_o
          clear mx
          clear lxs lys zxs zys lus
          generalize ((w2.setCell ⟨g, q, none⟩ (.int .u64 ys)).setCell ⟨g, p, none⟩ (.int .u64 xs)).drew = w3 at S3 ⊢

          have HR : Hid ((swp dk q p).size = n ∧ siftDown ltInt hi first c (swp dk q p) = siftDown ltInt hi first lo d) := by
            refine ⟨by rw [size_swp]; exact HI.out.2.1, ?_⟩
            have hv := hlv
            rw [Hx.out.1, Hx.out.2, HQ.out, HP.out] at hv
            rw [← HI.out.2.2, sift_go (by have := HC.out; omega) HCC.out hv, HQ.out, HP.out]
          clear S2 hlv Hx SS
          go_wp2_with fail
          go_roundg (hi - c)
          case measure => have := HC.out; omega
          case rel => exact ⟨c, swp dk q p, rfl, by have := HC.out; omega, by have := HC.out; omega, (show _ ∧ _ ∧ _ from ⟨S3.out, HR.out.1, HR.out.2⟩)⟩
end

end Go.Proofs.YthkkcnnlfjchaaaDoor
