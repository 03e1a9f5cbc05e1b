/- slices.swapRangeCmpFunc over places. -/
import Derived.Test.YtpiekhiamdknjaaH5
import Derived.Sort.WalkB2
namespace Go.Proofs.Ytpiekhiamdknjaa
open Go.RowKit Go.Sort Go.Shelf Go.Lib

theorem gi {d : Array Nat} {i j : Nat} (h : i = j) : d[i]! = d[j]! := by rw [h]
/-- k exchanges, of a and b, a + 1 and b + 1, .. -/
def swpR (d : Array Nat) (a b : Nat) : Nat → Array Nat
  | 0 => d
  | k + 1 => swp (swpR d a b k) (a + k) (b + k)
theorem swpR_size (d : Array Nat) (a b : Nat) : ∀ k, (swpR d a b k).size = d.size
  | 0 => rfl
  | k + 1 => by rw [swpR, swp_size]; exact swpR_size d a b k
theorem swpR_perm (d : Array Nat) (a b lo hi : Nat) (h1 : lo ≤ a) (h2 : a ≤ b) (h4 : hi ≤ d.size) : ∀ k, b + k ≤ hi → PermIn lo hi d (swpR d a b k)
  | 0, _ => permIn_refl d lo hi
  | k + 1, h3 => permIn_trans _ _ _ _ _ (swpR_perm d a b lo hi h1 h2 h4 k (by omega)) (swp_permIn _ lo hi (a + k) (b + k) (by omega) (by omega) (by omega) (by omega) (by rw [swpR_size]; exact h4))
theorem swpR_get (d : Array Nat) (a b : Nat) : ∀ k, a + k ≤ b → b + k ≤ d.size → ∀ p, (swpR d a b k)[p]! = if a ≤ p ∧ p < a + k then d[p + (b - a)]! else if b ≤ p ∧ p < b + k then d[p - (b - a)]! else d[p]!
  | 0, _, _, p => by rw [swpR, if_neg (by omega), if_neg (by omega)]
  | k + 1, h1, h2, p => by
    rw [swpR, swp_get _ (by rw [swpR_size]; omega) (by rw [swpR_size]; omega), swpR_get d a b k (by omega) (by omega) (a + k), swpR_get d a b k (by omega) (by omega) (b + k), swpR_get d a b k (by omega) (by omega) p]
    repeat' split
    all_goals first | rfl | (exfalso; omega) | exact gi (by omega)

set_option maxHeartbeats 4000000 in
set_option maxRecDepth 1000000 in
theorem swapRange_any (enc : Nat → Value) (cv : Value) (blk off cap a b k : Nat) (d0 d : Array Nat) (w0 w : World) (R : Row1 enc w0 blk off d0) (hs : d.size = d0.size) (S : SW enc w0 blk off d w)
    (h1 : a + k ≤ b) (h2 : b + k ≤ d.size) (hsz : d.size < 1000) :
    Calls Try.prog 48 #[.slice (some ⟨blk, off, none⟩) d.size cap, .int .i64 a, .int .i64 b, .int .i64 k, cv] w fun e w' => e = .returned (.tuple #[]) ∧ SW enc w0 blk off (swpR d a b k) w' := by
  have mixed : Try.prog.follows .mixedOrders = true := by kernel_rfl
  have hcl0 := R.hO.cells
  simp only [Value.cells] at hcl0
  have hst := R.hO.store Try.prog
  have S0 : Aside (SW enc w0 blk off d w) := S
  clear S
  go_enter Try.func48, Try.ntmps48
  go_wp2_with fail
  go_loopg [10] k (fun g v wr => ∃ (i : Nat), v = .int .i64 i ∧ i ≤ k ∧ k - i ≤ g ∧ Aside (SW enc w0 blk off (swpR d a b i) wr))
  case atStart => exact ⟨0, by go_num, by omega, by omega, S0⟩
  case round =>
    clear S0
    obtain ⟨i, rfl, hi, hg, S1⟩ := hrel
    by_cases hlt : i < k
    · have hltz : (i : Int) < k := by omega
      have hds := swpR_size d a b i
      obtain ⟨dk, hdk⟩ : ∃ dk, dk = swpR d a b i := ⟨_, rfl⟩
      rw [← hdk] at S1 hds
      obtain ⟨p, hp⟩ : ∃ p, p = a + i := ⟨_, rfl⟩
      obtain ⟨q, hq⟩ : ∃ q, q = b + i := ⟨_, rfl⟩
      have ep : ((a : Int) + (i : Int)).toNat = p := by omega
      have pp : (0 : Int) ≤ (a : Int) + (i : Int) := by omega
      have bp : (a : Int) + (i : Int) < (d.size : Int) := by omega
      have rp : IntKind.i64.wrap ((a : Int) + (i : Int)) = (a : Int) + (i : Int) := by rw [IntKind.wrap_i64]; omega
      have eq : ((b : Int) + (i : Int)).toNat = q := by omega
      have pq : (0 : Int) ≤ (b : Int) + (i : Int) := by omega
      have bq : (b : Int) + (i : Int) < (d.size : Int) := by omega
      have rq : IntKind.i64.wrap ((b : Int) + (i : Int)) = (b : Int) + (i : Int) := by rw [IntKind.wrap_i64]; omega
      obtain ⟨x, hx⟩ : ∃ x, x = dk[p]! := ⟨_, rfl⟩
      obtain ⟨y, hy⟩ : ∃ y, y = dk[q]! := ⟨_, rfl⟩
      have S2 : Aside (SW enc w0 blk off (swp dk p q) ((wr.setCell ⟨blk, off + p, none⟩ (enc y)).setCell ⟨blk, off + q, none⟩ (enc x)).drew) := by rw [hx, hy]; exact S1.out.swapped R p q (by omega) (by omega)
      have c1 := S1.out.c1 R (by omega) p (by omega)
      have c2 := S1.out.c1 R (by omega) q (by omega)
      have f1 := S1.out.f1 R (by omega) p (by omega)
      have f2 := S1.out.f1 R (by omega) q (by omega)
      obtain ⟨u, c3⟩ := S1.out.c2 R (by omega) p q (by omega) (by omega) (enc y)
      rw [← hx] at c1
      rw [← hy] at c2
      have HP : Hid (p = a + i) := hp
      have HQ : Hid (q = b + i) := hq
      have HD : Hid (dk = swpR d a b i) := hdk
      clear S1 hx hy hp hq hdk
      go_wp2_with fail
      go_big_region_o
      clear c1 c2 c3 f1 f2
      generalize ((wr.setCell ⟨blk, off + p, none⟩ (enc y)).setCell ⟨blk, off + q, none⟩ (enc x)).drew = w2 at S2 ⊢
      clear ep eq
      go_wp2
      go_roundg (k - (i + 1))
      case measure => omega
      case rel => exact ⟨i + 1, by go_num, by omega, by omega, by rw [swpR, ← HD.out, ← HP.out, ← HQ.out]; exact S2⟩
    · have hltz : ¬ (i : Int) < k := by omega
      obtain rfl : i = k := by omega
      go_wp2
      go_end0
      exact ⟨rfl, S1.out⟩

end Go.Proofs.Ytpiekhiamdknjaa
