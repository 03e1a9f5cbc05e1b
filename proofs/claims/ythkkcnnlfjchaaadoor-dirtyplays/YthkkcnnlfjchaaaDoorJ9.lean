/- slices.Sort of []uint64: partialInsertionSort. -/
import Derived.Test.YthkkcnnlfjchaaaDoorJ8
namespace Go.Proofs.YthkkcnnlfjchaaaDoor
open Go.RowKit Go.Sort

section
variable {w0 W : World} {g : Nat} {d0 d : Array Int}
theorem sort_swap {a i : Nat} (h : SortedIn ltInt a i d) {x y : Nat} (hx : i ≤ x) (hy : i ≤ y) : SortedIn ltInt a i (swp d x y) := fun p q h1 h2 h3 => by
  rw [swp_other _ _ _ _ (by omega) (by omega), swp_other _ _ _ _ (by omega) (by omega)]
  exact h p q h1 h2 h3
/-- Between two steps: [a, i) rises. -/
structure PIn (w0 : World) (g : Nat) (d0 d : Array Int) (a b n i : Nat) (dk : Array Int) (W : World) : Prop where
  su : SU w0 g d0 dk W
  sz : dk.size = n
  pm : PermIn a b d dk
  st : SortedIn ltInt a i dk
theorem PIn.dr {a b n i : Nat} {dk : Array Int} (h : PIn w0 g d0 d a b n i dk W) (m : Nat) : PIn w0 g d0 d a b n i dk (W.drewN m) := ⟨h.su.dr m, h.sz, h.pm, h.st⟩
/-- What partialInsertionSort tells and leaves. -/
def PnO (w0 : World) (g : Nat) (d0 d : Array Int) (a b : Nat) (e : Ending) (W : World) : Prop := ∃ (v : Bool) (d' : Array Int), e = .returned (.bool v) ∧ SU w0 g d0 d' W ∧ PermIn a b d d' ∧ (v = true → SortedIn ltInt a b d')
set_option maxRecDepth 100000 in
set_option maxHeartbeats 16000000 in
theorem pinsU_any (S : SU w0 g d0 d W) (a b cap n : Nat) (hn : n = d.size) (hab : a + 12 < b) (hb : b ≤ n) (hl : n ≤ 1000000) (hB : Go.Sort.Below ltInt a b d) :
    Calls Tryd.prog 41 #[.slice (some ⟨g, 0, none⟩) n cap, .int .i64 (a : Int), .int .i64 (b : Int)] W fun e W' => PnO w0 g d0 d a b e W' := by
  have HA : Hid (n = d.size ∧ a + 12 < b ∧ b ≤ n ∧ n ≤ 1000000) := ⟨hn, hab, hb, hl⟩
  have HBE := hid_is hB
  have cl := fun x y w => wless_any x y w
  have P0 : Hid (PIn w0 g d0 d a b n (a + 1) d W) := (show PIn w0 g d0 d a b n (a + 1) d W from ⟨S, hn.symm, permIn_refl _ _ _, fun p q h1 h2 h3 => by omega⟩)
  obtain ⟨l, hl0⟩ : ∃ l, l = b - a := ⟨_, rfl⟩
  have zl : (b : Int) - (a : Int) = (l : Int) := by omega
  have bl : (l : Int) ≤ 1000000 := by omega
  have ba : (a : Int) ≤ 1000000 := by omega
  have bb : (b : Int) ≤ 1000000 := by omega
  clear S hn hab hb hB hl0
  go_enter Tryd.func41, Tryd.ntmps41
  go_wp2_with fail
  go_loopg [7, 8] 6 (fun gg vi vs wr => ∃ (i s : Nat) (dk : Array Int), vi = .int .i64 (i : Int) ∧ vs = .int .i64 (s : Int) ∧ s ≤ 5 ∧ 6 - s ≤ gg ∧ a < i ∧ i ≤ b ∧ Hid (PIn w0 g d0 d a b n i dk wr))
  case atStart => exact ⟨a + 1, 0, d, by go_num, rfl, by omega, by omega, by omega, by have := HA.out; omega, P0⟩
  case round =>
    clear P0
    obtain ⟨i, s, dk, rfl, rfl, hs, hg1, hai, hib, HP⟩ := hrel
    by_cases hs5 : s < 5
    · have zs : (s : Int) < 5 := by omega
      go_upto_block 2 with fail
      go_cut [7] (fun vi wx => ∃ i2 : Nat, vi = .int .i64 (i2 : Int) ∧ a < i2 ∧ i2 ≤ b ∧ Hid (PIn w0 g d0 d a b n i2 dk wx ∧ (i2 < b → ltInt dk[i2]! dk[i2 - 1]! = true)))
      case first =>
        go_wp2_with fail
        go_loopg [7] (b + 1) (fun gs vi wr => ∃ i2 : Nat, vi = .int .i64 (i2 : Int) ∧ b + 1 - i2 ≤ gs ∧ a < i2 ∧ i2 ≤ b ∧ Hid (PIn w0 g d0 d a b n i2 dk wr))
        case atStart => exact ⟨i, rfl, by omega, hai, hib, HP⟩
        case round =>
          clear HP
          obtain ⟨i2, rfl, hm, hai2, hib2, HI⟩ := hrel
          by_cases hlt : i2 < b
          · have ltz : (i2 : Int) < (b : Int) := by omega
            have ltd : decide ((i2 : Int) < (b : Int)) = true := decide_eq_true ltz
            obtain ⟨q, hq⟩ : ∃ q, i2 = q + 1 := ⟨i2 - 1, by omega⟩
            have Hq := hid_is hq
            have zq : (i2 : Int) - 1 = (q : Int) := by omega

            have bi : (i2 : Int) < (n : Int) := by have := HA.out; omega
            have bq : (q : Int) < (n : Int) := by have := HA.out; omega
            have hin : i2 < dk.size := by have := HI.out.sz; have := HA.out; omega
            have hqn : q < dk.size := by omega
            clear hq
            obtain ⟨x, hx⟩ : ∃ x, x = dk[i2]! := ⟨_, rfl⟩
            obtain ⟨y, hy⟩ : ∃ x, x = dk[q]! := ⟨_, rfl⟩
            have lx := HI.out.su.c i2 hin
            have ly := HI.out.su.c q hqn
            rw [← hx] at lx
            rw [← hy] at ly
            have Hx : Hid (x = dk[i2]! ∧ y = dk[q]!) := ⟨hx, hy⟩
            clear hx hy

            cases hlv : ltInt x y with
            | true =>
              have HL : Hid (ltInt dk[i2]! dk[i2 - 1]! = true) := by
                have hv := hlv
                rw [Hx.out.1, Hx.out.2] at hv
                rw [show i2 - 1 = q by have := Hq.out; omega]
                exact hv
              have cl1 := fun w => cl x y w
              rw [hlv] at cl1
              go_wp2_with fail
              go_quiet (first | (go_at_call 42; refine Calls.quiet_of_same (cl1 _)))
              clear cl1

              have SZ := hid_is (HI.out.dr nq)
              generalize wr.drewN nq = w2 at SZ ⊢
              clear HI lx ly
              go_wp2_with fail
              go_meet
              exact ⟨i2, rfl, hai2, hib2, (show _ ∧ _ from ⟨SZ.out, fun _ => HL.out⟩)⟩
            | false =>
              have HL : Hid (ltInt dk[i2]! dk[i2 - 1]! = false) := by
                have hv := hlv
                rw [Hx.out.1, Hx.out.2] at hv
                rw [show i2 - 1 = q by have := Hq.out; omega]
                exact hv
              have cl1 := fun w => cl x y w
              rw [hlv] at cl1
              go_wp2_with fail
              go_quiet (first | (go_at_call 42; refine Calls.quiet_of_same (cl1 _)))
              clear cl1

              have SZ := hid_is (HI.out.dr nq)
              generalize wr.drewN nq = w2 at SZ ⊢
              clear HI lx ly
              go_wp2_with fail
              go_roundg (b + 1 - (i2 + 1))
              case measure => omega
              case rel => exact ⟨i2 + 1, by go_num, by omega, by omega, by omega, (show PIn w0 g d0 d a b n (i2 + 1) dk w2 from ⟨SZ.out.su, SZ.out.sz, SZ.out.pm, SZ.out.st.snoc swo_ltInt HL.out⟩)⟩
          · have ltz : ¬ (i2 : Int) < (b : Int) := by omega
            have ltd : decide ((i2 : Int) < (b : Int)) = false := decide_eq_false ltz
            go_wp2_with fail
            go_quiet (fail)
            have SZ := hid_is (HI.out.dr nq)
            generalize wr.drewN nq = w2 at SZ ⊢
            clear HI
            go_wp2_with fail
            go_meet
            exact ⟨i2, rfl, hai2, hib2, (show _ ∧ _ from ⟨SZ.out, fun c => absurd c hlt⟩)⟩
      case rest =>
        obtain ⟨i2, rfl, hai2, hib2, HP2⟩ := hcut
        clear HP hai hib
        by_cases hend : i2 = b
        · have ez : ((i2 : Int) == (b : Int)) = true := by rw [hend]; simp
          have HR : Hid (SU w0 g d0 dk wc ∧ PermIn a b d dk ∧ SortedIn ltInt a b dk) := by
            refine ⟨HP2.out.1.su, HP2.out.1.pm, ?_⟩
            have := HP2.out.1.st
            rw [hend] at this
            exact this
          clear HP2 hend
          go_wp2_with fail
          go_ret
          exact ⟨true, dk, rfl, HR.out.1, HR.out.2.1, fun _ => HR.out.2.2⟩
        · have ez : ((i2 : Int) == (b : Int)) = false := by simpa using (fun e : (i2 : Int) = (b : Int) => hend (by omega))
          by_cases h50 : l < 50
          · have z50 : (l : Int) < 50 := by omega
            go_wp2_with fail
            go_ret
            exact ⟨false, dk, rfl, HP2.out.1.su, HP2.out.1.pm, fun c => by cases c⟩
          · have z50 : ¬ (l : Int) < 50 := by omega
            obtain ⟨q, hq⟩ : ∃ q, i2 = q + 1 := ⟨i2 - 1, by omega⟩
            have Hq := hid_is hq
            have zq : (i2 : Int) - 1 = (q : Int) := by omega

            have bi : (i2 : Int) < (n : Int) := by have := HA.out; omega
            have bq : (q : Int) < (n : Int) := by have := HA.out; omega
            have hin : i2 < dk.size := by have := HP2.out.1.sz; have := HA.out; omega
            have hqn : q < dk.size := by omega
            have hlt2 : i2 < b := by omega
            clear hq hend
            obtain ⟨xs, hxs⟩ : ∃ x, x = dk[i2]! := ⟨_, rfl⟩
            obtain ⟨ys, hys⟩ : ∃ x, x = dk[q]! := ⟨_, rfl⟩
            have lxs := HP2.out.1.su.c i2 hin
            have lys := HP2.out.1.su.c q hqn
            have zxs := HP2.out.1.su.z i2 hin
            have zys := HP2.out.1.su.z q hqn
            obtain ⟨us, lus⟩ := HP2.out.1.su.c2 i2 q hin hqn (.int .u64 dk[q]!)
            have S3 := hid_is (HP2.out.1.su.swap i2 q hin hqn)
            rw [← hxs] at lxs S3
            rw [← hys] at lys lus S3
            clear hxs hys
            go_wp2_with fail
            have mx : Tryd.prog.follows .mixedOrders = true := by kernel_rfl
            go_big_region_o
            clear mx
            clear lxs lys zxs zys lus
            generalize ((wc.setCell ⟨g, i2, none⟩ (.int .u64 ys)).setCell ⟨g, q, none⟩ (.int .u64 xs)).drew = w3 at S3 ⊢

            have HI : Hid (SU w0 g d0 (swp dk i2 q) w3 ∧ (swp dk i2 q).size = n ∧ PermIn a b d (swp dk i2 q) ∧ Ins ltInt a q i2 (swp dk i2 q)) := by
              have h1 := HP2.out.1
              have h2 := HP2.out.2 hlt2
              have h3 := Hq.out
              have h4 := HA.out
              refine ⟨S3.out, by rw [size_swp]; exact h1.sz, permIn_trans _ _ _ _ _ h1.pm (swp_permIn _ _ _ _ _ (by omega) (by omega) (by omega) (by omega) (by have := h1.sz; omega)), ?_⟩
              have h5 := ins_start h1.st
              rw [show i2 - 1 = q by omega] at h2
              clear hin
              subst h3
              exact h5.step h2 (by omega) (by have := h1.sz; omega)
            clear HP2 S3
            generalize swp dk i2 q = d1 at *
            obtain ⟨k, hk⟩ : ∃ k, k = i2 - a := ⟨_, rfl⟩
            obtain ⟨k2, hk2⟩ : ∃ k2, k2 = b - i2 := ⟨_, rfl⟩
            have zk : (i2 : Int) - (a : Int) = (k : Int) := by omega
            have zk2 : (b : Int) - (i2 : Int) = (k2 : Int) := by omega
            have bk : (k : Int) ≤ 1000000 := by omega
            have bk2 : (k2 : Int) ≤ 1000000 := by omega
            have HK : Hid (k = i2 - a ∧ k2 = b - i2 ∧ i2 = q + 1 ∧ a < i2 ∧ i2 < b) := ⟨hk, hk2, Hq.out, hai2, hlt2⟩
            clear hk hk2 hib2 ez Hq
            go_upto_if 61 with fail
            go_cut [] (fun wx => ∃ dj : Array Int, Hid (PIn w0 g d0 d a b n (i2 + 1) dj wx))
            case first =>
              by_cases hk : 2 ≤ k
              · have z2 : (2 : Int) ≤ (k : Int) := by omega
                go_wp2_with fail
                go_loopg [9] q (fun gs vj wr => ∃ (j : Nat) (dj : Array Int), vj = .int .i64 (j : Int) ∧ a ≤ j ∧ j ≤ q ∧ j ≤ gs ∧ Hid (SU w0 g d0 dj wr ∧ dj.size = n ∧ PermIn a b d dj ∧ Ins ltInt a j i2 dj))
                case atStart => exact ⟨q, d1, rfl, by have := HK.out; omega, by omega, by omega, HI⟩
                case round =>
                  clear HI
                  obtain ⟨j, dj, rfl, haj, hjq, hg2, HJ⟩ := hrel
                  by_cases hj1 : 1 ≤ j
                  · have z1 : (1 : Int) ≤ (j : Int) := by omega
                    obtain ⟨r, hr⟩ : ∃ q, j = q + 1 := ⟨j - 1, by omega⟩
                    have Hr := hid_is hr
                    have zr : (j : Int) - 1 = (r : Int) := by omega

                    have bj : (j : Int) < (n : Int) := by have := HA.out; have := HK.out; omega
                    have br : (r : Int) < (n : Int) := by have := HA.out; have := HK.out; omega
                    have hjn : j < dj.size := by have := HJ.out.2.1; have := HA.out; have := HK.out; omega
                    have hrn : r < dj.size := by omega
                    clear hr
                    obtain ⟨x, hx⟩ : ∃ x, x = dj[j]! := ⟨_, rfl⟩
                    obtain ⟨y, hy⟩ : ∃ x, x = dj[r]! := ⟨_, rfl⟩
                    have lx := HJ.out.1.c j hjn
                    have ly := HJ.out.1.c r hrn
                    rw [← hx] at lx
                    rw [← hy] at ly
                    have Hx : Hid (x = dj[j]! ∧ y = dj[r]!) := ⟨hx, hy⟩
                    clear hx hy

                    cases hlv : ltInt x y with
                    | true =>
                      have haj2 : a < j := by
                        rcases Nat.lt_or_ge a j with c | c
                        · exact c
                        · exfalso
                          have ea : j = a := by omega
                          have hb := HBE.out.perm (by have := HA.out; omega) HJ.out.2.2.1
                          have h3 := Hr.out
                          rcases hb with h0 | hb
                          · omega
                          · have := hb a (Nat.le_refl _) (by have := HA.out; omega)
                            have hv := hlv
                            rw [Hx.out.1, Hx.out.2, ea, show r = a - 1 by omega, this] at hv
                            cases hv
                      have cl1 := fun w => cl x y w
                      rw [hlv] at cl1
                      go_wp2_with fail
                      go_quiet (first | (go_at_call 42; refine Calls.quiet_of_same (cl1 _)))
                      clear cl1

                      clear lx ly
                      have S2 := hid_is (HJ.out.1.dr nq)
                      generalize wr.drewN nq = w2 at S2 ⊢
                      obtain ⟨xs, hxs⟩ : ∃ x, x = dj[j]! := ⟨_, rfl⟩
                      obtain ⟨ys, hys⟩ : ∃ x, x = dj[r]! := ⟨_, rfl⟩
                      have lxs := S2.out.c j hjn
                      have lys := S2.out.c r hrn
                      have zxs := S2.out.z j hjn
                      have zys := S2.out.z r hrn
                      obtain ⟨us, lus⟩ := S2.out.c2 j r hjn hrn (.int .u64 dj[r]!)
                      have S5 := hid_is (S2.out.swap j r hjn hrn)
                      rw [← hxs] at lxs S5
                      rw [← hys] at lys lus S5
                      clear hxs hys
                      go_wp2_with fail
                      have mx : Tryd.prog.follows .mixedOrders = true := by kernel_rfl
                      go_big_region_o
                      clear mx
                      clear lxs lys zxs zys lus
                      generalize ((w2.setCell ⟨g, j, none⟩ (.int .u64 ys)).setCell ⟨g, r, none⟩ (.int .u64 xs)).drew = w5 at S5 ⊢

                      have HR : Hid (SU w0 g d0 (swp dj j r) w5 ∧ (swp dj j r).size = n ∧ PermIn a b d (swp dj j r) ∧ Ins ltInt a r i2 (swp dj j r)) := by
                        have h3 := Hr.out
                        have h5 := HK.out
                        have h6 := HA.out
                        refine ⟨S5.out, by rw [size_swp]; exact HJ.out.2.1, permIn_trans _ _ _ _ _ HJ.out.2.2.1 (swp_permIn _ _ _ _ _ (by omega) (by omega) (by omega) (by omega) (by have := HJ.out.2.1; omega)), ?_⟩
                        have h4 := HJ.out.2.2.2
                        have hv := hlv
                        rw [Hx.out.1, Hx.out.2] at hv
                        rw [h3] at h4 hv ⊢
                        exact h4.step hv (by omega) (by omega)
                      clear HJ S2 S5 hlv Hx
                      go_wp2_with fail
                      go_roundg r
                      case measure => have := Hr.out; omega
                      case rel => exact ⟨r, _, rfl, by have := Hr.out; omega, by have := Hr.out; omega, Nat.le_refl _, HR⟩
                    | false =>
                      have HR : Hid (SortedIn ltInt a (i2 + 1) dj) := by
                        have hv := hlv
                        rw [Hx.out.1, Hx.out.2] at hv
                        exact HJ.out.2.2.2.stop swo_ltInt (.inr (by rw [show j - 1 = r from by have := Hr.out; omega]; exact hv))
                      have cl1 := fun w => cl x y w
                      rw [hlv] at cl1
                      go_wp2_with fail
                      go_quiet (first | (go_at_call 42; refine Calls.quiet_of_same (cl1 _)))
                      clear cl1

                      have S2 := hid_is (HJ.out.1.dr nq)
                      generalize wr.drewN nq = w2 at S2 ⊢
                      clear lx ly
                      go_wp2_with fail
                      go_meet
                      exact ⟨dj, (show PIn _ _ _ _ _ _ _ _ _ _ from ⟨S2.out, HJ.out.2.1, HJ.out.2.2.1, HR.out⟩)⟩
                  · have z1 : ¬ (1 : Int) ≤ (j : Int) := by omega
                    go_wp2_with fail
                    go_meet
                    exact ⟨dj, (show PIn _ _ _ _ _ _ _ _ _ _ from ⟨HJ.out.1, HJ.out.2.1, HJ.out.2.2.1, HJ.out.2.2.2.stop swo_ltInt (.inl (by omega))⟩)⟩
              · have z2 : ¬ (2 : Int) ≤ (k : Int) := by omega
                go_wp2_with fail
                go_meet
                exact ⟨d1, (show PIn _ _ _ _ _ _ _ _ _ _ from ⟨HI.out.1, HI.out.2.1, HI.out.2.2.1, HI.out.2.2.2.stop swo_ltInt (.inl (by have := HK.out; omega))⟩)⟩
            case rest =>
              obtain ⟨d2, H2⟩ := hcut
              clear HI bq zq
              by_cases hk : 2 ≤ k2
              · have z2 : (2 : Int) ≤ (k2 : Int) := by omega
                go_wp2_with fail
                go_loopg [10] (b + 1) (fun gs vj wr => ∃ (j : Nat) (dj : Array Int), vj = .int .i64 (j : Int) ∧ i2 + 1 ≤ j ∧ j ≤ b ∧ b + 1 - j ≤ gs ∧ Hid (PIn w0 g d0 d a b n i2 dj wr))
                case atStart => exact ⟨i2 + 1, d2, by go_num, by omega, by omega, by omega, (show PIn _ _ _ _ _ _ _ _ _ _ from ⟨H2.out.su, H2.out.sz, H2.out.pm, fun p q h1 h2 h3 => H2.out.st p q h1 h2 (by omega)⟩)⟩
                case round =>
                  clear H2
                  obtain ⟨j, dj, rfl, hij, hjb, hg2, HJ⟩ := hrel
                  by_cases hlt : j < b
                  · have z1 : (j : Int) < (b : Int) := by omega
                    obtain ⟨r, hr⟩ : ∃ q, j = q + 1 := ⟨j - 1, by omega⟩
                    have Hr := hid_is hr
                    have zr : (j : Int) - 1 = (r : Int) := by omega

                    have bj : (j : Int) < (n : Int) := by have := HA.out; omega
                    have br : (r : Int) < (n : Int) := by have := HA.out; omega
                    have hjn : j < dj.size := by have := HJ.out.sz; have := HA.out; omega
                    have hrn : r < dj.size := by omega
                    clear hr
                    obtain ⟨x, hx⟩ : ∃ x, x = dj[j]! := ⟨_, rfl⟩
                    obtain ⟨y, hy⟩ : ∃ x, x = dj[r]! := ⟨_, rfl⟩
                    have lx := HJ.out.su.c j hjn
                    have ly := HJ.out.su.c r hrn
                    rw [← hx] at lx
                    rw [← hy] at ly
                    have Hx : Hid (x = dj[j]! ∧ y = dj[r]!) := ⟨hx, hy⟩
                    clear hx hy

                    cases hlv : ltInt x y with
                    | true =>
                      have cl1 := fun w => cl x y w
                      rw [hlv] at cl1
                      go_wp2_with fail
                      go_quiet (first | (go_at_call 42; refine Calls.quiet_of_same (cl1 _)))
                      clear cl1

                      clear lx ly
                      have S2 := hid_is (HJ.out.su.dr nq)
                      generalize wr.drewN nq = w2 at S2 ⊢
                      obtain ⟨xs, hxs⟩ : ∃ x, x = dj[j]! := ⟨_, rfl⟩
                      obtain ⟨ys, hys⟩ : ∃ x, x = dj[r]! := ⟨_, rfl⟩
                      have lxs := S2.out.c j hjn
                      have lys := S2.out.c r hrn
                      have zxs := S2.out.z j hjn
                      have zys := S2.out.z r hrn
                      obtain ⟨us, lus⟩ := S2.out.c2 j r hjn hrn (.int .u64 dj[r]!)
                      have S5 := hid_is (S2.out.swap j r hjn hrn)
                      rw [← hxs] at lxs S5
                      rw [← hys] at lys lus S5
                      clear hxs hys
                      go_wp2_with fail
                      have mx : Tryd.prog.follows .mixedOrders = true := by kernel_rfl
                      go_big_region_o
                      clear mx
                      clear lxs lys zxs zys lus
                      generalize ((w2.setCell ⟨g, j, none⟩ (.int .u64 ys)).setCell ⟨g, r, none⟩ (.int .u64 xs)).drew = w5 at S5 ⊢

                      have HR : Hid (PIn w0 g d0 d a b n i2 (swp dj j r) w5) := by
                        have h3 := Hr.out
                        have h5 := HK.out
                        have h6 := HA.out
                        exact ⟨S5.out, by rw [size_swp]; exact HJ.out.sz, permIn_trans _ _ _ _ _ HJ.out.pm (swp_permIn _ _ _ _ _ (by omega) (by omega) (by omega) (by omega) (by have := HJ.out.sz; omega)), sort_swap HJ.out.st (by omega) (by omega)⟩
                      clear HJ S2 S5 hlv Hx
                      go_wp2_with fail
                      go_roundg (b + 1 - (j + 1))
                      case measure => omega
                      case rel => exact ⟨j + 1, _, by go_num, by omega, by omega, by omega, HR⟩
                    | false =>
                      have cl1 := fun w => cl x y w
                      rw [hlv] at cl1
                      go_wp2_with fail
                      go_quiet (first | (go_at_call 42; refine Calls.quiet_of_same (cl1 _)))
                      clear cl1

                      have S2 := hid_is (HJ.out.dr nq)
                      generalize wr.drewN nq = w2 at S2 ⊢
                      clear lx ly
                      go_wp2_with fail
                      go_roundg (6 - (s + 1))
                      case measure => omega
                      case rel => exact ⟨i2, s + 1, dj, rfl, by go_num, by omega, by omega, hai2, by omega, S2⟩
                  · have z1 : ¬ (j : Int) < (b : Int) := by omega
                    go_wp2_with fail
                    go_roundg (6 - (s + 1))
                    case measure => omega
                    case rel => exact ⟨i2, s + 1, dj, rfl, by go_num, by omega, by omega, hai2, by omega, HJ⟩
              · have z2 : ¬ (2 : Int) ≤ (k2 : Int) := by omega
                have HR : Hid (PIn w0 g d0 d a b n i2 d2 wc) := (show PIn _ _ _ _ _ _ _ _ _ _ from ⟨H2.out.su, H2.out.sz, H2.out.pm, fun p q h1 h2 h3 => H2.out.st p q h1 h2 (by omega)⟩)
                clear H2
                go_wp2_with fail
                go_roundg (6 - (s + 1))
                case measure => omega
                case rel => exact ⟨i2, s + 1, d2, rfl, by go_num, by omega, by omega, hai2, by omega, HR⟩
    · have zs : ¬ (s : Int) < 5 := by omega
      go_wp2_with fail
      go_ret
      exact ⟨false, dk, rfl, HP.out.su, HP.out.pm, fun c => by cases c⟩
end

end Go.Proofs.YthkkcnnlfjchaaaDoor
