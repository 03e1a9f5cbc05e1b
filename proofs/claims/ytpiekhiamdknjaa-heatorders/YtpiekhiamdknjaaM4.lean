/- slices.symMergeCmpFunc where the left part is one place alone. -/
import Derived.Test.YtpiekhiamdknjaaM3
namespace Go.Proofs.Ytpiekhiamdknjaa
open Go.RowKit Go.Sort Go.Shelf Go.Lib

set_option maxHeartbeats 16000000 in
set_option maxRecDepth 1000000 in
theorem sym1 {g : Nat} {cb : Array Value} {enc : Nat → Value} {cf : Nat → Nat → Int} {blk off : Nat} {d0 : Array Nat} {w0 : World} (M : MC g cb enc cf blk off d0 w0) (cap a m b : Nat) (d : Array Nat) (w : World)
    (hs : d.size = d0.size) (S : SW enc w0 blk off d w) (ham : m = a + 1) (hmb : m < b) (hb : b ≤ d.size) (hS : SortedIn (T (ltOf cf)) m b d) (hC : ∀ q, m ≤ q → q < b → d[a]! < d[q]!) :
    Calls Try.prog 35 #[.slice (some ⟨blk, off, none⟩) d.size cap, .int .i64 a, .int .i64 m, .int .i64 b, .func (.func g) #[] cb] w fun e w' => e = .returned (.tuple #[]) ∧ ∃ d', SW enc w0 blk off d' w' ∧ PermIn a b d d' ∧ SortedIn (T (ltOf cf)) a b d' := by
  have mixed : Try.prog.follows .mixedOrders = true := by kernel_rfl
  have eg := M.eg
  have R := M.row
  have hcl0 := R.hO.cells
  simp only [Value.cells] at hcl0
  have hst := R.hO.store Try.prog
  have hsz : d.size < 1000 := by rw [hs]; exact M.small
  have HC : Aside _ := M.cmp
  have HO : Aside (SWO (ltOf cf)) := M.swo
  have S0 : Aside (SW enc w0 blk off d w) := S
  have X1 : Aside (SortedIn (T (ltOf cf)) m b d) := hS
  have X2 : Aside (∀ q, m ≤ q → q < b → d[a]! < d[q]!) := hC
  have HS : Hid (d.size = d0.size) := hs
  have HM : Hid (m = a + 1) := ham
  have e0 : (m : Int) - (a : Int) = 1 := by omega
  clear S hS hC hs ham M
  go_enter Try.func35, Try.ntmps35
  go_wp2_with fail
  clear e0
  go_loopg [10, 11] (b - m) (fun g1 v10 v11 wr => ∃ (i j : Nat), v10 = .int .i64 i ∧ v11 = .int .i64 j ∧ m ≤ i ∧ i ≤ j ∧ j ≤ b ∧ j - i ≤ g1 ∧ Aside (SW enc w0 blk off d wr) ∧ Aside (i = m ∨ ltOf cf d[i - 1]! d[a]! = true) ∧ Aside (j = b ∨ ltOf cf d[j]! d[a]! = false))
  case atStart => exact ⟨m, b, rfl, rfl, Nat.le_refl _, by omega, Nat.le_refl _, Nat.le_refl _, S0, (show Aside _ from Or.inl rfl), (show Aside _ from Or.inl rfl)⟩
  case round =>
    clear S0
    obtain ⟨i, j, rfl, rfl, hmi, hij, hjb, hg, S1, L, Rr⟩ := hrel
    have hsd := HS.out
    have ham := HM.out
    by_cases hlt : i < j
    · have y1 : (i : Int) < (j : Int) := by omega
      obtain ⟨h, hh⟩ : ∃ h, h = (i + j) / 2 := ⟨_, rfl⟩
      have e1 : ((i : Int) + (j : Int)) / 2 = (h : Int) := by omega
      have e2 : (h : Int).toNat = h := by omega
      have e3 : (a : Int).toNat = a := by omega
      have b1 : (h : Int) < (d.size : Int) := by omega
      have b2 : (a : Int) < (d.size : Int) := by omega
      have b3 : i ≤ h := by omega
      have b4 : h < j := by omega
      obtain ⟨x, hx⟩ : ∃ x, x = d[h]! := ⟨_, rfl⟩
      obtain ⟨y, hy⟩ : ∃ y, y = d[a]! := ⟨_, rfl⟩
      have l1 := S1.out.cl R hsd h (by omega)
      have l2 := S1.out.cl R hsd a (by omega)
      rw [← hx] at l1
      rw [← hy] at l2
      have hc := S1.out.cmp HC.out hsd x y
      have hcut : ltOf cf d[h]! d[a]! = decide (cf x y < 0) := by rw [hx, hy]; rfl
      have CUT : Hid _ := hcut
      have HH : Hid (h = (i + j) / 2) := hh
      clear hx hy hh hcut hsd ham
      by_cases hv : cf x y < 0
      · have hd : decide (cf x y < 0) = true := decide_eq_true hv
        have L2 : Aside (h + 1 = m ∨ ltOf cf d[h + 1 - 1]! d[a]! = true) := Or.inr (by rw [Nat.add_sub_cancel, CUT.out]; exact hd)
        go_wp2_with fail
        go_quiet_grown (first | (go_at_fn g; refine Calls.grown_of (hc _ _)))
        have S2 : Aside (SW enc w0 blk off d (grow (wr.drewN nq) osq)) := S1.out.grown nq osq
        clear l1 l2 hc S1
        generalize grow (wr.drewN nq) osq = w2 at S2 ⊢
        go_wp2
        go_roundg (j - (h + 1))
        case measure => omega
        case rel => exact ⟨h + 1, j, by go_num, rfl, by omega, by omega, hjb, Nat.le_refl _, S2, L2, Rr⟩
      · have hd : decide (cf x y < 0) = false := decide_eq_false hv
        have R2 : Aside (h = b ∨ ltOf cf d[h]! d[a]! = false) := Or.inr (by rw [CUT.out]; exact hd)
        go_wp2_with fail
        go_quiet_grown (first | (go_at_fn g; refine Calls.grown_of (hc _ _)))
        have S2 : Aside (SW enc w0 blk off d (grow (wr.drewN nq) osq)) := S1.out.grown nq osq
        clear l1 l2 hc S1
        generalize grow (wr.drewN nq) osq = w2 at S2 ⊢
        go_wp2
        go_roundg (h - i)
        case measure => omega
        case rel => exact ⟨i, h, rfl, rfl, hmi, by omega, by omega, Nat.le_refl _, S2, L, R2⟩
    · have y1 : ¬ (i : Int) < (j : Int) := by omega
      obtain rfl : i = j := by omega
      have Z : Aside (SortedIn (T (ltOf cf)) a b (bubU d a (i - 1 - a))) := by
        have k1 := L.out
        have k2 := Rr.out
        have k3 := X2.out
        have k4 := X1.out
        rw [ham] at k4
        refine sorted_bubU (T_swo HO.out) d a b i (by omega) (by omega) hb k4 ?_ ?_
        · rcases k1 with k | k
          · exact .inl (by omega)
          · by_cases c : i = a + 1
            · exact .inl c
            · exact .inr (by rw [T_of_gt (Nat.le_of_lt (k3 (i - 1) (by omega) (by omega)))]; exact k)
        · rcases k2 with k | k
          · exact .inl k
          · by_cases c : i = b
            · exact .inl c
            · exact .inr (by rw [T_of_gt (Nat.le_of_lt (k3 i (by omega) (by omega)))]; exact k)
      obtain ⟨i1, hi1⟩ : ∃ i1, i - 1 = i1 := ⟨_, rfl⟩
      have e1 : (i : Int) - 1 = (i1 : Int) := by omega
      rw [hi1] at Z
      have HI : Hid (i - 1 = i1) := hi1
      clear L Rr X1 X2 hi1 hsd
      go_wp2_with fail
      go_loopg [13] (i1 - a) (fun g2 v13 wr => ∃ k : Nat, v13 = .int .i64 k ∧ a ≤ k ∧ k ≤ i1 ∧ i1 - k ≤ g2 ∧ Aside (SW enc w0 blk off (bubU d a (k - a)) wr))
      case atStart => exact ⟨a, rfl, Nat.le_refl _, by have := HI.out; omega, Nat.le_refl _, (show Aside _ from by rw [Nat.sub_self]; exact S1.out)⟩
      case round =>
        clear S1
        obtain ⟨k, rfl, hak, hki, hg2, S3⟩ := hrel
        have hi1 := HI.out
        have hsd := HS.out
        by_cases hlk : k < i1
        · have y2 : (k : Int) < (i1 : Int) := by omega
          obtain ⟨dk, hdk⟩ : ∃ dk, dk = bubU d a (k - a) := ⟨_, rfl⟩
          have hds : dk.size = d.size := by rw [hdk, bubU_size]
          rw [← hdk] at S3
          obtain ⟨q, hq⟩ : ∃ q, q = k + 1 := ⟨_, rfl⟩
          have ep : (k : Int).toNat = k := by omega
          have bp : (k : Int) < (d.size : Int) := by omega
          have eq : ((k : Int) + 1).toNat = q := by omega
          have pq : (0 : Int) ≤ (k : Int) + 1 := by omega
          have bq : (k : Int) + 1 < (d.size : Int) := by omega
          obtain ⟨x, hx⟩ : ∃ x, x = dk[k]! := ⟨_, rfl⟩
          obtain ⟨y, hy⟩ : ∃ y, y = dk[q]! := ⟨_, rfl⟩
          have S4 : Aside (SW enc w0 blk off (swp dk k q) ((wr.setCell ⟨blk, off + k, none⟩ (enc y)).setCell ⟨blk, off + q, none⟩ (enc x)).drew) := by rw [hx, hy]; exact S3.out.swapped R k q (by omega) (by omega)
          have c1 := S3.out.c1 R (by omega) k (by omega)
          have c2 := S3.out.c1 R (by omega) q (by omega)
          have f1 := S3.out.f1 R (by omega) k (by omega)
          have f2 := S3.out.f1 R (by omega) q (by omega)
          obtain ⟨u, c3⟩ := S3.out.c2 R (by omega) k q (by omega) (by omega) (enc y)
          rw [← hx] at c1
          rw [← hy] at c2
          have HQ : Hid (q = k + 1) := hq
          have HD : Hid (dk = bubU d a (k - a)) := hdk
          clear S3 hx hy hq hdk hsd hi1
          go_wp2_with fail
          go_big_region_o
          clear c1 c2 c3 f1 f2
          generalize ((wr.setCell ⟨blk, off + k, none⟩ (enc y)).setCell ⟨blk, off + q, none⟩ (enc x)).drew = w2 at S4 ⊢
          clear ep eq
          go_wp2
          go_roundg (i1 - (k + 1))
          case measure => omega
          case rel =>
            refine ⟨k + 1, by go_num, by omega, by omega, Nat.le_refl _, (show Aside _ from ?_)⟩
            have e5 : k + 1 - a = (k - a) + 1 := by omega
            have e6 : a + (k - a) = k := by omega
            rw [e5, bubU, ← HD.out, e6, ← HQ.out]
            exact S4.out
        · have y2 : ¬ (k : Int) < (i1 : Int) := by omega
          obtain rfl : k = i1 := by omega
          have P : Aside (PermIn a b d (bubU d a (k - a))) := bubU_perm d a b hb (k - a) (by omega)
          clear hi1 hsd
          go_wp2
          (try simp only [Exit.inBlock, Exit.then]); refine bodyPost_ret (results_none rfl _ _ _) rfl ?_
          exact ⟨rfl, _, S3.out, P.out, Z.out⟩

end Go.Proofs.Ytpiekhiamdknjaa
