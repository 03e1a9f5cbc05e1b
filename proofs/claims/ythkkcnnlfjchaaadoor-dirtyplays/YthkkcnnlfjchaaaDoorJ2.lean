/- slices.Sort of []uint64: insertion. -/
import Derived.Test.YthkkcnnlfjchaaaDoorJ1
import Derived.Deep.LoopGhost
namespace Go.Proofs.YthkkcnnlfjchaaaDoor
open Go.RowKit Go.Sort

section
variable {w0 W : World} {g : Nat} {d0 d : Array Int}
theorem hid_is {p : Prop} (h : p) : Hid p := h
theorem ins_start {a i : Nat} (h : SortedIn ltInt a i d) : Ins ltInt a i i d := ⟨fun p q hap hpq hqi _ hq => h p q hap hpq (by omega), fun q h1 h2 => by omega⟩
set_option maxRecDepth 100000 in
set_option maxHeartbeats 8000000 in
theorem insU_any (S : SU w0 g d0 d W) (a b cap n : Nat) (hn : n = d.size) (hab : a ≤ b) (hb : b ≤ n) (hl : n ≤ 1000000) :
    Calls Tryd.prog 36 #[.slice (some ⟨g, 0, none⟩) n cap, .int .i64 (a : Int), .int .i64 (b : Int)] W fun e W' => e = .returned (.tuple #[]) ∧ ∃ d', SU w0 g d0 d' W' ∧ PermIn a b d d' ∧ SortedIn ltInt a b d' := by
  have HS : Hid (SU w0 g d0 d W) := S
  have HN : Hid (n = d.size) := hn
  have cl := fun x y w => wless_any x y w
  clear S hn
  go_enter Tryd.func36, Tryd.ntmps36
  go_wp2_with fail
  go_loopg [6] (b - a) (fun g1 vi wr => ∃ (i : Nat) (dk : Array Int), vi = .int .i64 (i : Int) ∧ a < i ∧ i ≤ b + 1 ∧ b + 1 - i ≤ g1 + 1 ∧ Hid (SU w0 g d0 dk wr ∧ dk.size = n ∧ PermIn a b d dk ∧ SortedIn ltInt a i dk ∧ (i = b + 1 → a = b)))
  case atStart => exact ⟨a + 1, d, by go_num, by omega, by omega, by omega, (show _ ∧ _ ∧ _ ∧ _ ∧ _ from ⟨HS.out, HN.out.symm, permIn_refl _ _ _, (fun i j h1 h2 h3 => by omega), fun _ => by omega⟩)⟩
  case round =>
    obtain ⟨i, dk, rfl, hai, hib, hg1, HI⟩ := hrel
    by_cases hlt : i < b
    · have hltz : (i : Int) < (b : Int) := by omega
      go_wp2_with fail
      go_loopg [7] i (fun g2 vj wr2 => ∃ (j : Nat) (dj : Array Int), vj = .int .i64 (j : Int) ∧ a ≤ j ∧ j ≤ i ∧ j ≤ g2 ∧ Hid (SU w0 g d0 dj wr2 ∧ dj.size = n ∧ PermIn a b d dj ∧ Ins ltInt a j i dj))
      case atStart => exact ⟨i, dk, rfl, by omega, Nat.le_refl _, Nat.le_refl _, (show _ ∧ _ ∧ _ ∧ _ from ⟨HI.out.1, HI.out.2.1, HI.out.2.2.1, ins_start HI.out.2.2.2.1⟩)⟩
      case round =>
        clear HI
        obtain ⟨j, dj, rfl, haj, hji, hg2, HJ⟩ := hrel
        by_cases hja : a < j
        · obtain ⟨q, hq⟩ : ∃ q, j = q + 1 := ⟨j - 1, by omega⟩
          have HQ : Hid (j = q + 1) := hq
          have z1 : (j : Int) - 1 = (q : Int) := by omega
          have gt : (a : Int) < (j : Int) := by omega
          have gtd : decide ((a : Int) < (j : Int)) = true := decide_eq_true gt
          have b1 : (j : Int) < (n : Int) := by omega
          have b2 : (q : Int) < (n : Int) := by omega
          have hjn : j < dj.size := by have := HJ.out.2.1; omega
          have hqn : q < dj.size := by omega
          clear hq
          obtain ⟨x, hx⟩ : ∃ x, x = dj[j]! := ⟨_, rfl⟩
          obtain ⟨y, hy⟩ : ∃ x, x = dj[q]! := ⟨_, rfl⟩
          have lx := HJ.out.1.c j hjn
          have ly := HJ.out.1.c q hqn
          rw [← hx] at lx
          rw [← hy] at ly
          have Hx : Hid (x = dj[j]! ∧ y = dj[q]!) := ⟨hx, hy⟩
          clear hx hy

          cases hlv : ltInt x y with
          | true =>
            have cl1 := fun w => cl x y w
            rw [hlv] at cl1
            go_wp2_with fail
            go_quiet (first | (go_at_call 42; refine Calls.quiet_of_same (cl1 _)))
            clear cl1

            clear lx ly
            have S2 := hid_is (HJ.out.1.dr nq)
            generalize wr.drewN nq = w2 at S2 ⊢
            obtain ⟨xs, hxs⟩ : ∃ x, x = dj[j]! := ⟨_, rfl⟩
            obtain ⟨ys, hys⟩ : ∃ x, x = dj[q]! := ⟨_, rfl⟩
            have lxs := S2.out.c j hjn
            have lys := S2.out.c q hqn
            have zxs := S2.out.z j hjn
            have zys := S2.out.z q hqn
            obtain ⟨us, lus⟩ := S2.out.c2 j q hjn hqn (.int .u64 dj[q]!)
            have S3 := hid_is (S2.out.swap j q hjn hqn)
            rw [← hxs] at lxs S3
            rw [← hys] at lys lus S3
            clear hxs hys
            go_wp2_with fail
            have mx : Tryd.prog.follows .mixedOrders = true := by kernel_rfl
            go_big_region_o
            clear mx
            clear lxs lys zxs zys lus
            generalize ((w2.setCell ⟨g, j, none⟩ (.int .u64 ys)).setCell ⟨g, q, none⟩ (.int .u64 xs)).drew = w3 at S3 ⊢

            have HR : Hid ((swp dj j q).size = n ∧ PermIn a b d (swp dj j q) ∧ Ins ltInt a q i (swp dj j q)) := by
              have hq := HQ.out
              refine ⟨by rw [size_swp]; exact HJ.out.2.1, permIn_trans _ _ _ _ _ HJ.out.2.2.1 (swp_permIn _ _ _ _ _ (by omega) (by omega) (by omega) (by omega) (by have := HJ.out.2.1; omega)), ?_⟩
              have h4 := HJ.out.2.2.2
              have hv := hlv
              rw [Hx.out.1, Hx.out.2] at hv
              rw [hq] at h4 hv ⊢
              exact h4.step hv (by omega) (by omega)
            clear HJ S2 hlv Hx
            go_wp2_with fail
            go_roundg q
            case measure => have := HQ.out; omega
            case rel => exact ⟨q, swp dj j q, rfl, by have := HQ.out; omega, by have := HQ.out; omega, Nat.le_refl _, (show _ ∧ _ ∧ _ ∧ _ from ⟨S3.out, HR.out.1, HR.out.2.1, HR.out.2.2⟩)⟩
          | false =>
            have HR : Hid (SortedIn ltInt a (i + 1) dj) := by
              have hv := hlv
              rw [Hx.out.1, Hx.out.2] at hv
              exact HJ.out.2.2.2.stop swo_ltInt (.inr (by rw [show j - 1 = q from by have := HQ.out; omega]; exact hv))
            have cl1 := fun w => cl x y w
            rw [hlv] at cl1
            go_wp2_with fail
            go_quiet (first | (go_at_call 42; refine Calls.quiet_of_same (cl1 _)))
            clear cl1

            have S2 := hid_is (HJ.out.1.dr nq)
            generalize wr.drewN nq = w2 at S2 ⊢
            clear lx ly z1 gt gtd b1 b2
            go_wp2_with fail
            go_roundg (b - (i + 1))
            case measure => omega
            case rel => exact ⟨i + 1, dj, by go_num, by omega, by omega, by omega, (show _ ∧ _ ∧ _ ∧ _ ∧ _ from ⟨S2.out, HJ.out.2.1, HJ.out.2.2.1, HR.out, fun _ => by omega⟩)⟩
        · have gt : ¬ (a : Int) < (j : Int) := by omega
          have gtd : decide ((a : Int) < (j : Int)) = false := decide_eq_false gt
          have HR : Hid (SortedIn ltInt a (i + 1) dj) := HJ.out.2.2.2.stop swo_ltInt (.inl (by omega))
          go_wp2_with fail
          go_quiet (fail)
          have S2 := hid_is (HJ.out.1.dr nq)
          generalize wr.drewN nq = w2 at S2 ⊢
          clear gt gtd
          go_wp2_with fail
          go_roundg (b - (i + 1))
          case measure => omega
          case rel => exact ⟨i + 1, dj, by go_num, by omega, by omega, by omega, (show _ ∧ _ ∧ _ ∧ _ ∧ _ from ⟨S2.out, HJ.out.2.1, HJ.out.2.2.1, HR.out, fun _ => by omega⟩)⟩
    · have hltz : ¬ (i : Int) < (b : Int) := by omega
      go_wp2_with fail
      go_end0
      refine ⟨rfl, dk, HI.out.1, HI.out.2.2.1, fun p q h1 h2 h3 => ?_⟩
      exact HI.out.2.2.2.1 p q h1 h2 (by omega)
end

end Go.Proofs.YthkkcnnlfjchaaaDoor
