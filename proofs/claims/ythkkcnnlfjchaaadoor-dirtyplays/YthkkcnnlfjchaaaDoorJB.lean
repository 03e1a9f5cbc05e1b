/- slices.Sort of []uint64: pdqsort. -/
import Derived.Test.YthkkcnnlfjchaaaDoorJA
namespace Go.Proofs.YthkkcnnlfjchaaaDoor
open Go.RowKit Go.Sort

section
variable {w0 W : World} {g : Nat} {d0 d : Array Int}
/-- pdqsort's contract at lengths of at most F. -/
def PQs (w0 : World) (g : Nat) (d0 : Array Int) (n cap F : Nat) : Prop := ∀ (d : Array Int) (W : World) (a b lim : Nat), SU w0 g d0 d W → d.size = n → a ≤ b → b ≤ n → b - a ≤ F → lim ≤ 64 → Go.Sort.Below ltInt a b d →
  Calls Tryd.prog 34 #[.slice (some ⟨g, 0, none⟩) n cap, .int .i64 (a : Int), .int .i64 (b : Int), .int .i64 (lim : Int)] W fun e W' => e = .returned (.tuple #[]) ∧ ∃ d', SU w0 g d0 d' W' ∧ PermIn a b d d' ∧ SortedIn ltInt a b d'
set_option maxRecDepth 100000 in
set_option maxHeartbeats 16000000 in
theorem pdqU_step {n cap F : Nat} (hl : n ≤ 1000000) (IH : ∀ F', F' < F → PQs w0 g d0 n cap F') : PQs w0 g d0 n cap F := by
  intro d W a b lim S hn hab hb hF hlim hB
  have HIH := hid_is IH
  have cl := fun x y w => wless_any x y w
  have P0 : Hid (SU w0 g d0 d W ∧ GL d a b n a b d ∧ b - a ≤ F) := ⟨S, GL.start hn hab hb hB, hF⟩
  have HL := hid_is hl
  have b1 : (b : Int) ≤ 1000000 := by omega
  clear S hn hab hb hF hB IH
  go_enter Tryd.func34, Tryd.ntmps34
  go_wp2_with fail
  go_loopg [1, 2, 3, 8, 9] (b + 1 - a) (fun gg va vb vl v8 v9 wr => ∃ (a2 b2 lm : Nat) (x8 x9 : Bool) (dk : Array Int), va = .int .i64 (a2 : Int) ∧ vb = .int .i64 (b2 : Int) ∧ vl = .int .i64 (lm : Int) ∧ v8 = .bool x8 ∧ v9 = .bool x9 ∧ lm ≤ 64 ∧ b2 + 1 - a2 ≤ gg ∧ b2 ≤ b ∧ a ≤ a2 ∧ a2 ≤ b2 ∧ Hid (SU w0 g d0 dk wr ∧ GL d a b n a2 b2 dk ∧ b - a ≤ F))
  case atStart => exact ⟨a, b, lim, true, true, d, rfl, rfl, rfl, rfl, rfl, hlim, by omega, by omega, by omega, P0.out.2.1.ab, P0⟩
  case round =>
    clear P0 hlim
    obtain ⟨a2, b2, lm, x8, x9, dk, rfl, rfl, rfl, rfl, rfl, hlm, hgg, hbb, haa, hab, HP⟩ := hrel
    obtain ⟨l, hl0⟩ : ∃ l, l = b2 - a2 := ⟨_, rfl⟩
    have zl : (b2 : Int) - (a2 : Int) = (l : Int) := by omega
    have bl : (l : Int) ≤ 1000000 := by omega
    have HLE := hid_is hl0
    clear hl0
    have hbn : b2 ≤ n := by have := HP.out.2.1.bn; omega
    have hsz := HP.out.2.1.sz
    by_cases h12 : l ≤ 12
    · have z12 : (l : Int) ≤ 12 := by omega
      have cI := insU_any HP.out.1 a2 b2 cap n hsz.symm hab hbn HL.out
      clear hsz
      go_wp2_with fail
      with_reducible refine cI.mono ?_
      rintro e w1 ⟨rfl, d1, S1, q1, s1⟩
      have HR : Hid (∃ d', SU w0 g d0 d' w1 ∧ PermIn a b d d' ∧ SortedIn ltInt a b d') := ⟨d1, S1, HP.out.2.1.gl d1 q1 s1⟩
      clear cI S1 q1 s1 HP
      go_wp2_with fail
      first | go_end0 | (refine bodyPost_ret (results_none rfl _ _ _) rfl ?_)
      exact ⟨rfl, HR.out⟩
    · have z12 : ¬ (l : Int) ≤ 12 := by omega
      have h13 : a2 + 12 < b2 := by have := HLE.out; omega
      by_cases h0 : lm = 0
      · have z0 : ((lm : Int) == 0) = true := by rw [h0]; rfl
        have cI := heapU_any HP.out.1 a2 b2 cap n hsz.symm hab hbn HL.out
        clear hsz h0
        go_wp2_with fail
        with_reducible refine cI.mono ?_
        rintro e w1 ⟨rfl, d1, S1, q1, s1⟩
        have HR : Hid (∃ d', SU w0 g d0 d' w1 ∧ PermIn a b d d' ∧ SortedIn ltInt a b d') := ⟨d1, S1, HP.out.2.1.gl d1 q1 s1⟩
        clear cI S1 q1 s1 HP
        go_wp2_with fail
        first | go_end0 | (refine bodyPost_ret (results_none rfl _ _ _) rfl ?_)
        exact ⟨rfl, HR.out⟩
      · have z0 : ((lm : Int) == 0) = false := by simpa using h0
        obtain ⟨l1, hl1⟩ : ∃ l1, lm = l1 + 1 := ⟨lm - 1, by omega⟩
        have zl1 : (lm : Int) - 1 = (l1 : Int) := by omega
        have HL1 := hid_is hl1
        have blm : (lm : Int) ≤ 64 := by omega
        clear hl1 h0
        go_upto_if 35 with fail
        go_cut [3] (fun vl wx => ∃ (lm : Nat) (dk : Array Int), vl = .int .i64 (lm : Int) ∧ lm ≤ 64 ∧ Hid (SU w0 g d0 dk wx ∧ GL d a b n a2 b2 dk ∧ b - a ≤ F))
        case first =>
          cases x8 with
          | true =>
            go_wp2_with fail
            go_meet
            exact ⟨lm, dk, rfl, by omega, HP⟩
          | false =>
            have cI := breakU_any HP.out.1 a2 b2 cap n hsz.symm h13 hbn HL.out
            clear hsz
            go_wp2_with fail
            with_reducible refine cI.mono ?_
            rintro e w1 ⟨rfl, d1, S1, q1⟩
            have HR : Hid (SU w0 g d0 d1 w1 ∧ GL d a b n a2 b2 d1 ∧ b - a ≤ F) := ⟨S1, HP.out.2.1.perm q1, HP.out.2.2⟩
            clear cI S1 q1 HP
            go_wp2_with fail
            go_meet
            exact ⟨l1, d1, rfl, by have := HL1.out; omega, HR⟩
        case rest =>
          clear HP hsz z0 zl1 HL1 blm
          obtain ⟨lm, dk, rfl, hlm, HP⟩ := hcut
          have hsz := HP.out.2.1.sz
          have cI := choose_any HP.out.1 a2 b2 cap n hsz.symm h13 hbn HL.out
          clear hsz
          go_wp2_with fail
          with_reducible refine cI.mono ?_
          rintro e w1 ⟨p, h, rfl, S1, p1, p2⟩
          have HQ : Hid (SU w0 g d0 dk w1 ∧ GL d a b n a2 b2 dk ∧ b - a ≤ F) := ⟨S1, HP.out.2.1, HP.out.2.2⟩
          clear cI S1 HP
          obtain ⟨t, ht⟩ : ∃ t : Bool, (h == 2) = t := ⟨_, rfl⟩
          go_upto_if 50 with fail
          go_cut [11, 12] (fun vp vh wx => ∃ (p : Nat) (h : Int) (dk : Array Int), vp = .int .i64 (p : Int) ∧ vh = .int .i64 h ∧ a2 ≤ p ∧ p < b2 ∧ Hid (SU w0 g d0 dk wx ∧ GL d a b n a2 b2 dk ∧ b - a ≤ F))
          case first =>
            cases t with
            | false =>
              go_wp2_with fail
              go_meet
              exact ⟨p, h, dk, rfl, rfl, p1, p2, HQ⟩
            | true =>
              have hsz := HQ.out.2.1.sz
              have cI := revU_any HQ.out.1 a2 b2 cap n hsz.symm (by omega) hbn HL.out
              obtain ⟨q1, hq1⟩ : ∃ q1, q1 = b2 - 1 := ⟨_, rfl⟩
              obtain ⟨q2, hq2⟩ : ∃ q2, q2 = p - a2 := ⟨_, rfl⟩
              obtain ⟨q3, hq3⟩ : ∃ q3, q3 = q1 - q2 := ⟨_, rfl⟩
              have y1 : (b2 : Int) - 1 = (q1 : Int) := by omega
              have y2 : (p : Int) - (a2 : Int) = (q2 : Int) := by omega
              have y3 : (q1 : Int) - (q2 : Int) = (q3 : Int) := by omega
              have y4 : (q1 : Int) ≤ 1000000 := by omega
              have y5 : (q2 : Int) ≤ 1000000 := by omega
              have y6 : (q3 : Int) ≤ 1000000 := by omega
              have HY : Hid (a2 ≤ q3 ∧ q3 < b2) := ⟨by omega, by omega⟩
              clear hsz hq1 hq2 hq3
              go_wp2_with fail
              with_reducible refine cI.mono ?_
              rintro e w2 ⟨rfl, d1, S1, x1⟩
              have HR : Hid (SU w0 g d0 d1 w2 ∧ GL d a b n a2 b2 d1 ∧ b - a ≤ F) := ⟨S1, HQ.out.2.1.perm x1, HQ.out.2.2⟩
              clear cI S1 x1 HQ
              go_wp2_with fail
              go_meet
              exact ⟨q3, 1, d1, rfl, rfl, HY.out.1, HY.out.2, HR⟩
          case rest =>
            clear HQ ht p1 p2
            obtain ⟨p, h, dk, rfl, rfl, p1, p2, HP⟩ := hcut
            obtain ⟨t, ht⟩ : ∃ t : Bool, (h == 1) = t := ⟨_, rfl⟩
            go_upto_region 15 with fail
            go_cut [68] (fun v68 wx => ∃ v : Bool, v68 = .bool v ∧ Hid (SU w0 g d0 dk wx ∧ GL d a b n a2 b2 dk ∧ b - a ≤ F))
            case first =>
              cases x8 with
              | false =>
                go_wp2_with fail
                go_meet
                exact ⟨_, rfl, HP⟩
              | true =>
                cases x9 with
                | false =>
                  go_wp2_with fail
                  go_meet
                  exact ⟨_, rfl, HP⟩
                | true =>
                  go_wp2_with fail
                  go_meet
                  exact ⟨_, rfl, HP⟩
            case rest =>
              clear HP ht
              obtain ⟨v, rfl, HP⟩ := hcut
              go_upto_if 68 with fail
              go_cut [] (fun wx => ∃ dk : Array Int, Hid (SU w0 g d0 dk wx ∧ GL d a b n a2 b2 dk ∧ b - a ≤ F))
              case first =>
                cases v with
                | false =>
                  go_wp2_with fail
                  go_meet
                  exact ⟨dk, HP⟩
                | true =>
                  have cI := pinsU_any HP.out.1 a2 b2 cap n HP.out.2.1.sz.symm h13 hbn HL.out HP.out.2.1.be
                  go_wp2_with fail
                  with_reducible refine cI.mono ?_
                  rintro e w2 ⟨r, d1, rfl, S1, q1, s1⟩
                  clear cI
                  cases r with
                  | true =>
                    have HR : Hid (∃ d', SU w0 g d0 d' w2 ∧ PermIn a b d d' ∧ SortedIn ltInt a b d') := ⟨d1, S1, HP.out.2.1.gl d1 q1 (s1 rfl)⟩
                    clear S1 q1 s1 HP
                    go_wp2_with fail
                    first | go_end0 | (refine bodyPost_ret (results_none rfl _ _ _) rfl ?_)
                    exact ⟨rfl, HR.out⟩
                  | false =>
                    have HR : Hid (SU w0 g d0 d1 w2 ∧ GL d a b n a2 b2 d1 ∧ b - a ≤ F) := ⟨S1, HP.out.2.1.perm q1, HP.out.2.2⟩
                    clear S1 q1 s1 HP
                    go_wp2_with fail
                    go_meet
                    exact ⟨d1, HR⟩
              case rest =>
                clear HP
                obtain ⟨dk, HP⟩ := hcut
                go_upto_region 17 with fail
                go_cut [87] (fun v87 wx => ∃ v : Bool, v87 = .bool v ∧ Hid (SU w0 g d0 dk wx ∧ (v = true → 0 < a2 ∧ ltInt dk[a2 - 1]! dk[p]! = false)))
                case first =>
                  by_cases ha0 : 0 < a2
                  · have z0 : (0 : Int) < (a2 : Int) := by omega
                    have zd : decide ((0 : Int) < (a2 : Int)) = true := decide_eq_true z0
                    obtain ⟨q, hq⟩ : ∃ q, a2 = q + 1 := ⟨a2 - 1, by omega⟩
                    have Hq := hid_is hq
                    have zq : (a2 : Int) - 1 = (q : Int) := by omega
                    have bq : (q : Int) < (n : Int) := by omega
                    have bp : (p : Int) < (n : Int) := by omega
                    have hqn : q < dk.size := by have := HP.out.2.1.sz; omega
                    have hpn : p < dk.size := by have := HP.out.2.1.sz; omega
                    clear hq
                    obtain ⟨x, hx⟩ : ∃ x, x = dk[q]! := ⟨_, rfl⟩
                    obtain ⟨y, hy⟩ : ∃ x, x = dk[p]! := ⟨_, rfl⟩
                    have lx := HP.out.1.c q hqn
                    have ly := HP.out.1.c p hpn
                    rw [← hx] at lx
                    rw [← hy] at ly
                    have Hx : Hid (x = dk[q]! ∧ y = dk[p]!) := ⟨hx, hy⟩
                    clear hx hy

                    cases hlv : ltInt x y with
                    | true =>
                      have cl1 := fun w => cl x y w
                      rw [hlv] at cl1
                      go_wp2_with fail
                      go_quiet (first | (go_at_call 42; refine Calls.quiet_of_same (cl1 _)))
                      clear cl1

                      have S2 := hid_is (HP.out.1.dr nq)
                      generalize wc.drewN nq = w2 at S2 ⊢
                      go_wp2_with fail
                      go_meet
                      exact ⟨false, rfl, (show _ ∧ _ from ⟨S2.out, fun c => by cases c⟩)⟩
                    | false =>
                      have HT : Hid (0 < a2 ∧ ltInt dk[a2 - 1]! dk[p]! = false) := by
                        refine ⟨ha0, ?_⟩
                        have hv := hlv
                        rw [Hx.out.1, Hx.out.2] at hv
                        rw [show a2 - 1 = q by have := Hq.out; omega]
                        exact hv
                      have cl1 := fun w => cl x y w
                      rw [hlv] at cl1
                      go_wp2_with fail
                      go_quiet (first | (go_at_call 42; refine Calls.quiet_of_same (cl1 _)))
                      clear cl1

                      have S2 := hid_is (HP.out.1.dr nq)
                      generalize wc.drewN nq = w2 at S2 ⊢
                      go_wp2_with fail
                      go_meet
                      exact ⟨true, rfl, (show _ ∧ _ from ⟨S2.out, fun _ => HT.out⟩)⟩
                  · have z0 : ¬ (0 : Int) < (a2 : Int) := by omega
                    have zd : decide ((0 : Int) < (a2 : Int)) = false := decide_eq_false z0
                    go_wp2_with fail
                    go_quiet (fail)
                    have S2 := hid_is (HP.out.1.dr nq)
                    generalize wc.drewN nq = w2 at S2 ⊢
                    go_wp2_with fail
                    go_meet
                    exact ⟨false, rfl, (show _ ∧ _ from ⟨S2.out, fun c => by cases c⟩)⟩
                case rest =>
                  obtain ⟨v, rfl, HV⟩ := hcut
                  have HG : Hid (GL d a b n a2 b2 dk ∧ b - a ≤ F) := HP.out.2
                  clear HP
                  cases v with
                  | true =>
                    have cI := peqU_any HV.out.1 a2 b2 p cap n HG.out.1.sz.symm p1 p2 hbn HL.out
                    go_wp2_with fail
                    with_reducible refine cI.mono ?_
                    rintro e w2 ⟨m, d1, rfl, S1, m1, m2, q1, lo, hi⟩
                    have hv := HV.out.2 (by trivial)
                    have HR : Hid (SU w0 g d0 d1 w2 ∧ GL d a b n m b2 d1 ∧ b - a ≤ F) := ⟨S1, HG.out.1.peq hv.1 hv.2 m1 m2 q1 lo hi, HG.out.2⟩
                    have HM : Hid (a2 < m ∧ m ≤ b2) := ⟨m1, m2⟩
                    clear cI S1 q1 lo hi HV HG hv m1 m2
                    go_wp2_with fail
                    go_roundg (b2 + 1 - m)
                    case measure => have := HM.out; omega
                    case rel => exact ⟨m, b2, lm, x8, x9, d1, rfl, rfl, rfl, rfl, rfl, hlm, by omega, hbb, by have := HM.out; omega, HM.out.2, HR⟩
                  | false =>
                    have cI := partU_any HV.out.1 a2 b2 p cap n HG.out.1.sz.symm p1 p2 hbn HL.out
                    clear HV
                    go_wp2_with fail
                    with_reducible refine cI.mono ?_
                    rintro e w2 ⟨m, ok, d1, rfl, S1, m1, m2, q1, lo, hi⟩
                    clear cI
                    have HM : Hid (a2 ≤ m ∧ m < b2 ∧ SU w0 g d0 d1 w2 ∧ PermIn a2 b2 dk d1 ∧ (∀ k, a2 ≤ k → k < m → ltInt d1[k]! d1[m]! = true) ∧ (∀ k, m < k → k < b2 → ltInt d1[k]! d1[m]! = false)) := ⟨m1, m2, S1, q1, lo, hi⟩
                    obtain ⟨u1, hu1⟩ : ∃ u, u = m - a2 := ⟨_, rfl⟩
                    obtain ⟨u2, hu2⟩ : ∃ u, u = b2 - m := ⟨_, rfl⟩
                    obtain ⟨m5, hm5⟩ : ∃ u, u = m + 1 := ⟨_, rfl⟩
                    obtain ⟨th, hth⟩ : ∃ u, u = l / 8 := ⟨_, rfl⟩
                    have y1 : (m : Int) - (a2 : Int) = (u1 : Int) := by omega
                    have y2 : (b2 : Int) - (m : Int) = (u2 : Int) := by omega
                    have y3 : (m : Int) + 1 = (m5 : Int) := by omega
                    have y4 : (l : Int).tdiv 8 = (th : Int) := by rw [Int.tdiv_eq_ediv_of_nonneg (by omega)]; omega
                    have y5 : (u1 : Int) ≤ 1000000 := by omega
                    have y6 : (u2 : Int) ≤ 1000000 := by omega
                    have y7 : (m5 : Int) ≤ 1000001 := by omega
                    have y8 : (th : Int) ≤ 1000000 := by omega
                    have HU : Hid (u1 = m - a2 ∧ u2 = b2 - m ∧ m5 = m + 1 ∧ l = b2 - a2) := ⟨hu1, hu2, hm5, HLE.out⟩
                    clear S1 q1 lo hi hu1 hu2 hm5 hth m1 m2
                    by_cases hlt : u1 < u2
                    · have z1 : (u1 : Int) < (u2 : Int) := by omega
                      have cR := HIH.out (m - a2) (by have := HM.out; have := HU.out; have := HG.out.1.a1; have := HG.out.1.b1; have := HG.out.2; omega) d1 w2 a2 m lm HM.out.2.2.1 (by have h1 := HM.out.2.2.2.1.1; have h2 := HG.out.1.sz; omega) HM.out.1 (by have := HM.out; omega) (Nat.le_refl _) hlm ((HG.out.1.be.perm (by have := HG.out.1.sz; omega) HM.out.2.2.2.1).mono (by have := HM.out; omega))
                      go_wp2_with (go_at_call 34; with_reducible refine cR.mono ?_; rintro e w3 ⟨rfl, d3, S3, q3, s3⟩)
                      have HR : Hid (SU w0 g d0 d3 w3 ∧ GL d a b n m5 b2 d3 ∧ b - a ≤ F) := by
                        rw [HU.out.2.2.1]
                        exact ⟨S3, HG.out.1.left HM.out.1 HM.out.2.1 HM.out.2.2.2.1 HM.out.2.2.2.2.1 HM.out.2.2.2.2.2 q3 s3, HG.out.2⟩
                      clear cR S3 q3 s3
                      go_roundg (b2 + 1 - m5)
                      case measure => have := HM.out; have := HU.out; omega
                      case rel => exact ⟨m5, b2, lm, _, ok, d3, rfl, rfl, rfl, rfl, rfl, hlm, by omega, hbb, by have := HM.out; have := HU.out; omega, by have := HM.out; have := HU.out; omega, HR⟩
                    · have z1 : ¬ (u1 : Int) < (u2 : Int) := by omega
                      have cR := HIH.out (b2 - m5) (by have := HM.out; have := HU.out; have := HG.out.1.a1; have := HG.out.1.b1; have := HG.out.2; omega) d1 w2 m5 b2 lm HM.out.2.2.1 (by have h1 := HM.out.2.2.2.1.1; have h2 := HG.out.1.sz; omega) (by have := HM.out; have := HU.out; omega) hbn (Nat.le_refl _) hlm (Or.inr fun k k1 k2 => by
                        have h1 := HU.out.2.2.1
                        rw [h1, Nat.add_sub_cancel]
                        exact HM.out.2.2.2.2.2 k (by omega) k2)
                      go_wp2_with (go_at_call 34; with_reducible refine cR.mono ?_; rintro e w3 ⟨rfl, d3, S3, q3, s3⟩)
                      have HR : Hid (SU w0 g d0 d3 w3 ∧ GL d a b n a2 m d3 ∧ b - a ≤ F) := by
                        rw [HU.out.2.2.1] at q3 s3
                        exact ⟨S3, HG.out.1.right HM.out.1 HM.out.2.1 HM.out.2.2.2.1 HM.out.2.2.2.2.1 HM.out.2.2.2.2.2 q3 s3, HG.out.2⟩
                      clear cR S3 q3 s3
                      go_roundg (m + 1 - a2)
                      case measure => have := HM.out; omega
                      case rel => exact ⟨a2, m, lm, _, ok, d3, rfl, rfl, rfl, rfl, rfl, hlm, by omega, by have := HM.out; omega, haa, HM.out.1, HR⟩
theorem pdqU_any {n cap : Nat} (hl : n ≤ 1000000) (F : Nat) : PQs w0 g d0 n cap F :=
  Nat.strongRecOn F fun _ IH => pdqU_step hl IH
end

end Go.Proofs.YthkkcnnlfjchaaaDoor
