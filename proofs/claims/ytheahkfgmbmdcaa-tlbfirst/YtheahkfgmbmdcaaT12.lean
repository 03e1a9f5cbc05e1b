/- demesnelaw15: lines. -/
import Derived.Test.YtheahkfgmbmdcaaT8
namespace Go.Proofs.Ytheahkfgmbmdcaa
open Go.RowKit
set_option maxRecDepth 10000

set_option maxHeartbeats 4000000 in
theorem lines_same {w : World} {b1 b2 : Nat} {v1 v2 : Value} {L : List LN} (h1 : LL w b1 v1 L) (h2 : LL w b2 v2 L) (hl : L.length ≤ 1000) :
    Calls Try.prog 16 #[v1, v2] w fun e w' => e = .returned (.bool true) ∧ Dr w w' := by
  obtain ⟨na1, cap1, rfl, f1⟩ := h1.form
  obtain ⟨na2, cap2, rfl, f2⟩ := h2.form
  obtain ⟨n, hn⟩ : ∃ n, L.length = n := ⟨_, rfl⟩
  rw [hn] at hl ⊢
  have HF : Hid ((∀ i x, L[i]? = some x → ∃ g, na1 = some ⟨g, 0, none⟩ ∧ g < w.heap.size ∧ b1 ≤ g ∧ ∀ j y, (encL x)[j]? = some y → w.cell? ⟨g, i * 11 + j, none⟩ = some y) ∧ (∀ i x, L[i]? = some x → ∃ g, na2 = some ⟨g, 0, none⟩ ∧ g < w.heap.size ∧ b2 ≤ g ∧ ∀ j y, (encL x)[j]? = some y → w.cell? ⟨g, i * 11 + j, none⟩ = some y) ∧ L.length = n) := ⟨f1, f2, hn⟩
  clear f1 f2 hn h1 h2
  have y2 : (n : Int) ≤ 1000 := by omega
  have b1 : ((n : Int) == (n : Int)) = true := by simp
  go_enter Try.func16, Try.ntmps16
  go_wp2_with fail
  go_loopg [5] n (fun gk v5 wr => ∃ i : Nat, v5 = .int .i64 (i : Int) ∧ i ≤ n ∧ n - i ≤ gk ∧ Hid (Dr w wr))
  case atStart => exact ⟨0, rfl, by omega, by omega, Dr.refl w⟩
  case round =>
    obtain ⟨i, rfl, i2, hg, HD⟩ := hrel
    by_cases hi : i < n
    · have y1 : (i : Int) < n := by omega
      obtain ⟨m, rfl⟩ := HD.out
      obtain ⟨f1, f2, hn⟩ := HF.out
      obtain ⟨l, hL⟩ : ∃ l, L[i]? = some l := ⟨_, List.getElem?_eq_getElem (by omega)⟩
      obtain ⟨g1, rfl, _, _, c1⟩ := f1 i l hL
      obtain ⟨g2, rfl, _, _, c2⟩ := f2 i l hL
      have x0 := c1 0 _ rfl
      have x1 := c1 1 _ rfl
      have x2 := c1 2 _ rfl
      have x3 := c1 3 _ rfl
      have x4 := c1 4 _ rfl
      have x5 := c1 5 _ rfl
      have x6 := c1 6 _ rfl
      have x7 := c1 7 _ rfl
      have x8 := c1 8 _ rfl
      have x9 := c1 9 _ rfl
      have x10 := c1 10 _ rfl
      have z0 := c2 0 _ rfl
      have z1 := c2 1 _ rfl
      have z2 := c2 2 _ rfl
      have z3 := c2 3 _ rfl
      have z4 := c2 4 _ rfl
      have z5 := c2 5 _ rfl
      have z6 := c2 6 _ rfl
      have z7 := c2 7 _ rfl
      have z8 := c2 8 _ rfl
      have z9 := c2 9 _ rfl
      have z10 := c2 10 _ rfl
      simp only [Nat.add_zero] at x0 z0
      have h1 : ∀ w, (Op.equalIn 10000 34 (lnV l) (lnV l)).run Try.prog w = .ok true w := fun w => by rw [eq_line, samL_refl]
      simp only [lnV] at h1
      clear c1 c2 f1 f2 hL hn
      go_wp2_with fail
      go_quiet (fail)
      go_wp2_with fail
      go_roundg (n - (i + 1))
      case measure => omega
      case rel => exact ⟨i + 1, by go_num, by omega, by omega, ⟨_, rfl⟩⟩
    · have en : i = n := by omega
      subst en
      go_wp2
      go_ret
      exact ⟨rfl, HD.out⟩

end Go.Proofs.Ytheahkfgmbmdcaa
