/- tlb: search, by whatever is asked of a place. -/
import Derived.Test.YtclcickhgoiooaaT2
import Derived.WalkMore
import Derived.ScopeJumps
namespace Go.Proofs.Ytclcickhgoiooaa
open Go.RowKit
set_option maxRecDepth 10000

/-- The function g with what it captured asks F of a place. -/
structure FT (g : FuncId) (cap : Array Value) (F : PC → Bool) (I : World → Prop) : Prop where
  fn : ∃ fn, Try.prog.funcs[g]? = some fn ∧ fn.body.isSome = true ∧ ¬ fn.name = "runtime.NumGoroutine"
  keep : ∀ w w', I w → Kp w w' → I w'
  call : ∀ w c, I w → Calls Try.prog g (#[pcV c] ++ cap) w fun e w' => e = .returned (.bool (F c)) ∧ Kp w w'

/-- The first of n places from j on, of which F is so; -1: none. -/
def sr (F : Nat → Bool) : Nat → Nat → Int
  | 0, _ => -1
  | n + 1, j => if F j = true then (j : Int) else sr F n (j + 1)
theorem sr_cases (F : Nat → Bool) : ∀ n j, (sr F n j = -1 ∧ ∀ i, j ≤ i → i < j + n → F i = false) ∨ ∃ i : Nat, sr F n j = (i : Int) ∧ j ≤ i ∧ i < j + n ∧ F i = true ∧ ∀ m, j ≤ m → m < i → F m = false
  | 0, j => .inl ⟨rfl, fun i h1 h2 => by omega⟩
  | n + 1, j => by
    unfold sr
    cases h : F j
    · rw [if_neg (by decide)]
      rcases sr_cases F n (j + 1) with ⟨h1, h2⟩ | ⟨i, h1, h2, h3, h4, h5⟩
      · refine .inl ⟨h1, fun i a b => ?_⟩
        by_cases e : i = j
        · subst e; exact h
        · exact h2 i (by omega) (by omega)
      · refine .inr ⟨i, h1, by omega, by omega, h4, fun m a b => ?_⟩
        by_cases e : m = j
        · subst e; exact h
        · exact h5 m (by omega) b
    · rw [if_pos rfl]
      exact .inr ⟨j, rfl, Nat.le_refl _, by omega, h, fun m a b => by omega⟩

def srJ (w : World) (g f k c : Nat) (fv : Value) (z : Int) : Act → World → Prop := fun a' w' => Hid (Kp w w') ∧ ∃ (u2 u3 u4 u6 u7 u8 u9 u10 u11 u12 u13 u14 u15 u16 u17 u18 : Value), a' = { tmps := #[.slice (some ⟨g, f * 12, none⟩) k c, fv, u2, u3, u4, .int .i64 z, u6, u7, u8, u9, u10, u11, u12, u13, u14, u15, u16, u17, u18], defers := [] }

set_option maxHeartbeats 4000000 in
theorem search_any {w : World} {g N k f c : Nat} {T : Nat → PC} {q : FuncId} {cap : Array Value} {F : PC → Bool} {I : World → Prop} (h : PR w g N T) (R : FT q cap F I) (hI : I w) (hN : f + k ≤ N) (hk : k ≤ 8) :
    Calls Try.prog 42 #[.slice (some ⟨g, f * 12, none⟩) k c, .func (.func q) #[] cap] w fun e w' => e = .returned (.int .i64 (sr (fun j => F (T (f + j))) k 0)) ∧ Kp w w' := by
  have hcf : ∀ args w, (callFunc q args).run Try.prog w = .ok (.enter q args) w := by
    obtain ⟨fn, hf, hb, hnm⟩ := R.fn
    obtain ⟨c, hb⟩ := Option.isSome_iff_exists.1 hb
    intro args w
    simp [callFunc, go_sem, hf, hb, hnm]
  obtain ⟨z, hz⟩ : ∃ z, sr (fun j => F (T (f + j))) k 0 = z := ⟨_, rfl⟩
  rw [hz]
  have HH : Hid (PR w g N T ∧ FT q cap F I ∧ I w ∧ f + k ≤ N ∧ sr (fun j => F (T (f + j))) k 0 = z) := ⟨h, R, hI, hN, hz⟩
  clear h R hI hz
  go_enter Try.func42, Try.ntmps42
  go_wp2_with fail
  refine scope_again 0 (srJ w g f k c (.func (.func q) #[] cap) z) (fun _ _ => 0) rfl (fun pass => ?_) ?_
  · have PASS : Aside (∀ a w', srJ w g f k c (.func (.func q) #[] cap) z a w' → _) := pass
    clear pass
    go_wp2_with fail
    go_loopg [5] k (fun n v5 wr => ∃ j : Nat, v5 = .int .i64 (j : Int) ∧ j ≤ k ∧ k - j ≤ n ∧ Hid (Kp w wr ∧ sr (fun j => F (T (f + j))) (k - j) j = z))
    case atStart => exact ⟨0, rfl, by omega, by omega, Kp.refl w, HH.out.2.2.2.2⟩
    case round =>
      obtain ⟨j, rfl, j1, hg, HJ⟩ := hrel
      have y1 : (k : Int) ≤ 8 := by omega
      by_cases hj : j < k
      · have y2 : (j : Int) < k := by omega
        obtain ⟨h, R, hI, hN, _⟩ := HH.out
        have P := h.kp HJ.out.1
        have cc : ∀ m y, (encP (T (f + j)))[m]? = some y → wr.cell? ⟨g, f * 12 + j * 12 + m, none⟩ = some y := fun m y hy => by
          have := P.cell (f + j) m y (by omega) hy
          rwa [Nat.add_mul] at this
        have cF := R.call wr (T (f + j)) (R.keep _ _ hI HJ.out.1)
        have hs : sr (fun j => F (T (f + j))) (k - j) j = if F (T (f + j)) = true then (j : Int) else sr (fun j => F (T (f + j))) (k - (j + 1)) (j + 1) := by
          rw [show k - j = (k - (j + 1)) + 1 by omega]
          rfl
        have hz := HJ.out.2
        rw [hs] at hz
        have HZ : Hid ((if F (T (f + j)) = true then (j : Int) else sr (fun j => F (T (f + j))) (k - (j + 1)) (j + 1)) = z) := hz
        have HF : Hid (F (T (f + j)) = F (T (f + j))) := rfl
        obtain ⟨bF, hbF⟩ : ∃ bF, F (T (f + j)) = bF := ⟨_, rfl⟩
        rw [hbF] at cF HZ
        clear P hs hz HF hbF
        generalize T (f + j) = C at *
        obtain ⟨on, l⟩ := C
        have x0 := cc 0 _ rfl
        have x1 := cc 1 _ rfl
        have x2 := cc 2 _ rfl
        have x3 := cc 3 _ rfl
        have x4 := cc 4 _ rfl
        have x5 := cc 5 _ rfl
        have x6 := cc 6 _ rfl
        have x7 := cc 7 _ rfl
        have x8 := cc 8 _ rfl
        have x9 := cc 9 _ rfl
        have x10 := cc 10 _ rfl
        have x11 := cc 11 _ rfl
        simp only [Nat.add_zero] at x0
        clear cc h R hI hN
        simp only [pcV] at cF
        go_wp2_with fail
        with_reducible refine cF.mono ?_
        rintro e w1 ⟨rfl, K1⟩
        have HK : Hid (Kp w w1) := HJ.out.1.trans K1
        clear K1 cF x0 x1 x2 x3 x4 x5 x6 x7 x8 x9 x10 x11
        cases bF
        · have HZ2 : Hid (Kp w w1 ∧ sr (fun j => F (T (f + j))) (k - (j + 1)) (j + 1) = z) := ⟨HK.out, by have := HZ.out; rwa [if_neg (by decide)] at this⟩
          clear HZ HK HJ
          go_wp2
          go_roundg (k - (j + 1))
          case measure => omega
          case rel => exact ⟨j + 1, by go_num, by omega, by omega, HZ2⟩
        · have hz : (j : Int) = z := by have := HZ.out; rwa [if_pos rfl] at this
          subst hz
          clear HZ HJ
          go_wp2_with fail
          go_step3
          refine ⟨rfl, HK, _, _, _, _, _, _, _, _, _, _, _, _, _, _, _, _, rfl⟩
      · have hz : (-1 : Int) = z := by
          have := HJ.out.2
          rw [show k - j = 0 by omega] at this
          exact this
        subst hz
        have ej : j = k := by omega
        subst ej
        have HK : Hid (Kp w wr) := HJ.out.1
        clear HJ
        go_wp2_with fail
        go_step3
        rename_i hK
        exact hK _ _ (PASS.out _ _ ⟨HK, _, _, _, _, _, _, _, _, _, _, _, _, _, _, _, _, rfl⟩)
  · rintro a' w' ⟨HK, u2, u3, u4, u6, u7, u8, u9, u10, u11, u12, u13, u14, u15, u16, u17, u18, rfl⟩
    go_wp2_with fail
    simp only [Exit.jump]
    go_ret
    exact ⟨rfl, HK.out⟩

end Go.Proofs.Ytclcickhgoiooaa
