/- slices.Sort of []uint64: partition. -/
import Derived.Test.YthkkcnnlfjchaaaDoorJ7
namespace Go.Proofs.YthkkcnnlfjchaaaDoor
open Go.RowKit Go.Sort

section
variable {w0 W : World} {g : Nat} {d0 d : Array Int}
/-- What partition leaves: m, and the row d'. -/
def PtO (w0 : World) (g : Nat) (d0 d : Array Int) (a b m : Nat) (d' : Array Int) (W : World) : Prop := SU w0 g d0 d' W ∧ a ≤ m ∧ m < b ∧ PermIn a b d d' ∧ (∀ k, a ≤ k → k < m → ltInt d'[k]! d'[m]! = true) ∧ (∀ k, m < k → k < b → ltInt d'[k]! d'[m]! = false)
theorem PT.fin {a b n : Nat} {p : Int} {i j : Nat} {dk : Array Int} {w3 : World} (h : PT (fun x => ltInt x p) w0 g d0 d a b n p i j dk W) (hij : j < i) (S : SU w0 g d0 (swp dk j a) w3) : PtO w0 g d0 d a b j (swp dk j a) w3 := by
  have h1 := h.i1
  have h2 := h.ij
  have h3 := h.jb
  have h4 := h.bn
  have h5 := h.sz
  have em : (swp dk j a)[j]! = p := by
    by_cases e : j = a
    · subst e; rw [swp_right _ _ _ (by omega)]; exact h.pa
    · rw [swp_left _ _ _ (by omega) e]; exact h.pa
  refine ⟨S, by omega, h3, permIn_trans _ _ _ _ _ h.pm (swp_permIn _ _ _ _ _ (by omega) (by omega) (by omega) (by omega) (by omega)), fun k k1 k2 => ?_, fun k k1 k2 => ?_⟩
  · rw [em]
    by_cases e : k = a
    · rw [e, swp_right _ _ _ (by omega)]; exact h.lo j (by omega) (by omega)
    · rw [swp_other _ _ _ _ (by omega) e]; exact h.lo k (by omega) (by omega)
  · rw [em, swp_other _ _ _ _ (by omega) (by omega)]
    exact h.hi k k1 k2
set_option maxRecDepth 100000 in
set_option maxHeartbeats 16000000 in
theorem partU_any (S : SU w0 g d0 d W) (a b pv cap n : Nat) (hn : n = d.size) (h1 : a ≤ pv) (h2 : pv < b) (hb : b ≤ n) (hl : n ≤ 1000000) :
    Calls Tryd.prog 44 #[.slice (some ⟨g, 0, none⟩) n cap, .int .i64 (a : Int), .int .i64 (b : Int), .int .i64 (pv : Int)] W fun e W' => ∃ (m : Nat) (ok : Bool) (d' : Array Int), e = .returned (.tuple #[.int .i64 (m : Int), .bool ok]) ∧ PtO w0 g d0 d a b m d' W' := by
  have HA : Hid (n = d.size ∧ a ≤ pv ∧ pv < b ∧ b ≤ n ∧ n ≤ 1000000) := ⟨hn, h1, h2, hb, hl⟩
  have cl := fun x y w => wless_any x y w
  have HS := hid_is S
  obtain ⟨p, hp⟩ : ∃ p, p = d[pv]! := ⟨_, rfl⟩
  have han : a < d.size := by omega
  have hpn : pv < d.size := by omega
  have ba : (a : Int) < (n : Int) := by omega
  have bp : (pv : Int) < (n : Int) := by omega
  obtain ⟨j, hj⟩ : ∃ j, b = j + 1 := ⟨b - 1, by omega⟩
  have zb : (b : Int) - 1 = (j : Int) := by omega
  have bb : (b : Int) ≤ 1000000 := by omega
  obtain ⟨i, hi⟩ : ∃ i, i = a + 1 := ⟨_, rfl⟩
  have za : (a : Int) + 1 = (i : Int) := by omega
  have HB : Hid (b = j + 1 ∧ p = d[pv]! ∧ i = a + 1) := ⟨hj, hp, hi⟩
  clear S hn h1 h2 hb hj hp hi
  go_enter Tryd.func44, Tryd.ntmps44
  obtain ⟨xs, hxs⟩ : ∃ x, x = d[a]! := ⟨_, rfl⟩
  obtain ⟨ys, hys⟩ : ∃ x, x = d[pv]! := ⟨_, rfl⟩
  have lxs := HS.out.c a han
  have lys := HS.out.c pv hpn
  have zxs := HS.out.z a han
  have zys := HS.out.z pv hpn
  obtain ⟨us, lus⟩ := HS.out.c2 a pv han hpn (.int .u64 d[pv]!)
  have S3 := hid_is (HS.out.swap a pv han hpn)
  rw [← hxs] at lxs S3
  rw [← hys] at lys lus S3
  clear hxs hys
  go_wp2_with fail
  have mx : Tryd.prog.follows .mixedOrders = true := by kernel_rfl
  go_big_region_o
  clear mx
  clear lxs lys zxs zys lus
  generalize ((W.setCell ⟨g, a, none⟩ (.int .u64 ys)).setCell ⟨g, pv, none⟩ (.int .u64 xs)).drew = w3 at S3 ⊢

  have HP : Hid (PT (fun x => ltInt x p) w0 g d0 d a b n p i j (swp d a pv) w3) := by
    have hA := HA.out
    have hB := HB.out
    refine ⟨S3.out, by rw [size_swp]; exact hA.1.symm, swp_permIn _ _ _ _ _ (by omega) (by omega) (by omega) (by omega) (by omega), ?_, fun k k1 k2 => by omega, fun k k1 k2 => by omega, by omega, by omega, by omega, hA.2.2.2.1⟩
    rw [hB.2.1]
    by_cases e : a = pv
    · subst e; rw [swp_right _ _ _ (by omega)]
    · exact swp_left _ _ _ (by omega) e
  clear S3 bp
  generalize swp d a pv = dk at *
  go_upto_block 0 with fail
  go_cut [10] (fun vi wx => ∃ i2 : Nat, vi = .int .i64 (i2 : Int) ∧ i ≤ i2 ∧ Hid (PT (fun x => ltInt x p) w0 g d0 d a b n p i2 j dk wx ∧ (i2 ≤ j → (fun x => ltInt x p) dk[i2]! = false)))
  case first =>
    go_wp2_with fail
    go_loopg [10] (n + 1) (fun gs vi wr => ∃ i2 : Nat, vi = .int .i64 (i2 : Int) ∧ n + 1 - i2 ≤ gs ∧ i2 ≤ n ∧ i ≤ i2 ∧ Hid (PT (fun x => ltInt x p) w0 g d0 d a b n p i2 j dk wr))
    case atStart => exact ⟨i, rfl, by have := HP.out.jb; have := HP.out.ij; have := HP.out.bn; omega, by have := HP.out.jb; have := HP.out.ij; have := HP.out.bn; omega, Nat.le_refl _, HP⟩
    case round =>
      clear HP
      obtain ⟨i2, rfl, hm, hmn, hmi, HI⟩ := hrel
      by_cases hle : i2 ≤ j
      · have lez : (i2 : Int) ≤ (j : Int) := by omega
        have led : decide ((i2 : Int) ≤ (j : Int)) = true := decide_eq_true lez
        have bm : (i2 : Int) < (n : Int) := by have := HI.out.jb; have := HI.out.bn; omega
        have ba : (a : Int) < (n : Int) := by have := HI.out.jb; have := HI.out.i1; have := HI.out.ij; have := HI.out.bn; omega
        have hmz : i2 < dk.size := by have := HI.out.sz; omega
        have haz : a < dk.size := by have := HI.out.sz; omega

        obtain ⟨x, hx⟩ : ∃ x, x = dk[a]! := ⟨_, rfl⟩
        obtain ⟨y, hy⟩ : ∃ x, x = dk[i2]! := ⟨_, rfl⟩
        have lx := HI.out.su.c a haz
        have ly := HI.out.su.c i2 hmz
        rw [← hx] at lx
        rw [← hy] at ly
        have Hx : Hid (x = dk[a]! ∧ y = dk[i2]!) := ⟨hx, hy⟩
        clear hx hy

        cases hlv : ltInt y x with
        | false =>
          have HL : Hid ((fun x => ltInt x p) dk[i2]! = false) := by
            show ltInt dk[i2]! p = false
            have hv := hlv
            rw [Hx.out.1, Hx.out.2, HI.out.pa] at hv
            rw [hv]
          have cl1 := fun w => cl y x w
          rw [hlv] at cl1
          go_wp2_with fail
          go_quiet (first | (go_at_call 42; refine Calls.quiet_of_same (cl1 _)))
          clear cl1
          have SZ := hid_is (HI.out.dr nq)
          generalize wr.drewN nq = w2 at SZ ⊢
          clear HI lx ly
          go_wp2_with fail
          go_meet
          exact ⟨i2, rfl, hmi, (show _ ∧ _ from ⟨SZ.out, fun _ => HL.out⟩)⟩
        | true =>
          have HL : Hid ((fun x => ltInt x p) dk[i2]! = true) := by
            show ltInt dk[i2]! p = true
            have hv := hlv
            rw [Hx.out.1, Hx.out.2, HI.out.pa] at hv
            rw [hv]
          have cl1 := fun w => cl y x w
          rw [hlv] at cl1
          go_wp2_with fail
          go_quiet (first | (go_at_call 42; refine Calls.quiet_of_same (cl1 _)))
          clear cl1
          have SZ := hid_is (HI.out.dr nq)
          generalize wr.drewN nq = w2 at SZ ⊢
          clear HI lx ly
          go_wp2_with fail

          go_roundg (n + 1 - (i2 + 1))
          case measure => omega
          case rel => exact ⟨i2 + 1, by go_num, by omega, by have := SZ.out.jb; have := SZ.out.bn; omega, by omega, (show PT (fun x => ltInt x p) w0 g d0 d a b n p _ _ _ _ from SZ.out.up (by omega) HL.out)⟩

      · have lez : ¬ (i2 : Int) ≤ (j : Int) := by omega
        have led : decide ((i2 : Int) ≤ (j : Int)) = false := decide_eq_false lez
        go_wp2_with fail
        go_quiet (fail)
        have SZ := hid_is (HI.out.dr nq)
        generalize wr.drewN nq = w2 at SZ ⊢
        clear HI
        go_wp2_with fail
        go_meet
        exact ⟨i2, rfl, hmi, (show _ ∧ _ from ⟨SZ.out, fun c => absurd c hle⟩)⟩
  case rest =>
    obtain ⟨i2, rfl, hmi, HP2⟩ := hcut
    clear HP
    have HP3 := hid_is HP2.out.1
    have HU := hid_is HP2.out.2
    clear HP2
    go_upto_block 2 with fail
    go_cut [11] (fun vi wx => ∃ j2 : Nat, vi = .int .i64 (j2 : Int) ∧ j2 ≤ j ∧ Hid (PT (fun x => ltInt x p) w0 g d0 d a b n p i2 j2 dk wx ∧ (i2 ≤ j2 → (fun x => ltInt x p) dk[j2]! = true)))
    case first =>
      go_wp2_with fail
      go_loopg [11] (n + 1) (fun gs vi wr => ∃ j2 : Nat, vi = .int .i64 (j2 : Int) ∧ j2 ≤ gs ∧ j2 ≤ j ∧ Hid (PT (fun x => ltInt x p) w0 g d0 d a b n p i2 j2 dk wr))
      case atStart => exact ⟨j, rfl, by have := HP3.out.jb; have := HP3.out.ij; have := HP3.out.bn; omega, Nat.le_refl _, HP3⟩
      case round =>
        clear HP3
        obtain ⟨j2, rfl, hm, hmj, HI⟩ := hrel
        by_cases hle : i2 ≤ j2
        · have lez : (i2 : Int) ≤ (j2 : Int) := by omega
          have led : decide ((i2 : Int) ≤ (j2 : Int)) = true := decide_eq_true lez
          have bm : (j2 : Int) < (n : Int) := by have := HI.out.jb; have := HI.out.bn; omega
          have ba : (a : Int) < (n : Int) := by have := HI.out.jb; have := HI.out.i1; have := HI.out.ij; have := HI.out.bn; omega
          have hmz : j2 < dk.size := by have := HI.out.sz; omega
          have haz : a < dk.size := by have := HI.out.sz; omega
          obtain ⟨q, hq⟩ : ∃ q, j2 = q + 1 := ⟨j2 - 1, by have := HI.out.i1; omega⟩
          have HQ := hid_is hq
          have zq : (j2 : Int) - 1 = (q : Int) := by omega
          have HLE := hid_is hle
          clear hq
          obtain ⟨x, hx⟩ : ∃ x, x = dk[a]! := ⟨_, rfl⟩
          obtain ⟨y, hy⟩ : ∃ x, x = dk[j2]! := ⟨_, rfl⟩
          have lx := HI.out.su.c a haz
          have ly := HI.out.su.c j2 hmz
          rw [← hx] at lx
          rw [← hy] at ly
          have Hx : Hid (x = dk[a]! ∧ y = dk[j2]!) := ⟨hx, hy⟩
          clear hx hy

          cases hlv : ltInt y x with
          | false =>
            have HL : Hid ((fun x => ltInt x p) dk[j2]! = false) := by
              show ltInt dk[j2]! p = false
              have hv := hlv
              rw [Hx.out.1, Hx.out.2, HI.out.pa] at hv
              rw [hv]
            have cl1 := fun w => cl y x w
            rw [hlv] at cl1
            go_wp2_with fail
            go_quiet (first | (go_at_call 42; refine Calls.quiet_of_same (cl1 _)))
            clear cl1
            have SZ := hid_is (HI.out.dr nq)
            generalize wr.drewN nq = w2 at SZ ⊢
            clear HI lx ly
            go_wp2_with fail

            go_roundg q
            case measure => have := HQ.out; omega
            case rel => exact ⟨q, rfl, by omega, by have := HQ.out; omega, (show PT (fun x => ltInt x p) w0 g d0 d a b n p _ _ _ _ from by
              have h1 := SZ.out
              have h2 := HL.out
              have h3 := HLE.out
              rw [HQ.out] at h1 h2 h3
              exact h1.down h3 h2)⟩
          | true =>
            have HL : Hid ((fun x => ltInt x p) dk[j2]! = true) := by
              show ltInt dk[j2]! p = true
              have hv := hlv
              rw [Hx.out.1, Hx.out.2, HI.out.pa] at hv
              rw [hv]
            have cl1 := fun w => cl y x w
            rw [hlv] at cl1
            go_wp2_with fail
            go_quiet (first | (go_at_call 42; refine Calls.quiet_of_same (cl1 _)))
            clear cl1
            have SZ := hid_is (HI.out.dr nq)
            generalize wr.drewN nq = w2 at SZ ⊢
            clear HI lx ly
            go_wp2_with fail
            go_meet
            exact ⟨j2, rfl, hmj, (show _ ∧ _ from ⟨SZ.out, fun _ => HL.out⟩)⟩

        · have lez : ¬ (i2 : Int) ≤ (j2 : Int) := by omega
          have led : decide ((i2 : Int) ≤ (j2 : Int)) = false := decide_eq_false lez
          go_wp2_with fail
          go_quiet (fail)
          have SZ := hid_is (HI.out.dr nq)
          generalize wr.drewN nq = w2 at SZ ⊢
          clear HI
          go_wp2_with fail
          go_meet
          exact ⟨j2, rfl, hmj, (show _ ∧ _ from ⟨SZ.out, fun c => absurd c hle⟩)⟩
    case rest =>
      obtain ⟨j2, rfl, hmj, HPD⟩ := hcut
      clear HP3
      by_cases hgt : j2 < i2
      · have gz : (j2 : Int) < (i2 : Int) := by omega
        have gzd : decide ((j2 : Int) < (i2 : Int)) = true := decide_eq_true gz
        have hjn : j2 < dk.size := by have := HPD.out.1.sz; have := HPD.out.1.jb; have := HPD.out.1.bn; omega
        have han2 : a < dk.size := by have := HPD.out.1.sz; have := HPD.out.1.i1; have := HPD.out.1.ij; have := HPD.out.1.jb; have := HPD.out.1.bn; omega
        have bj : (j2 : Int) < (n : Int) := by have := HPD.out.1.sz; omega
        have ba2 : (a : Int) < (n : Int) := by have := HPD.out.1.sz; omega

        obtain ⟨xs, hxs⟩ : ∃ x, x = dk[j2]! := ⟨_, rfl⟩
        obtain ⟨ys, hys⟩ : ∃ x, x = dk[a]! := ⟨_, rfl⟩
        have lxs := HPD.out.1.su.c j2 hjn
        have lys := HPD.out.1.su.c a han2
        have zxs := HPD.out.1.su.z j2 hjn
        have zys := HPD.out.1.su.z a han2
        obtain ⟨us, lus⟩ := HPD.out.1.su.c2 j2 a hjn han2 (.int .u64 dk[a]!)
        have S3 := hid_is (HPD.out.1.su.swap j2 a hjn han2)
        rw [← hxs] at lxs S3
        rw [← hys] at lys lus S3
        clear hxs hys
        go_wp2_with fail
        have mx : Tryd.prog.follows .mixedOrders = true := by kernel_rfl
        go_big_region_o
        clear mx
        clear lxs lys zxs zys lus
        generalize ((wc.setCell ⟨g, j2, none⟩ (.int .u64 ys)).setCell ⟨g, a, none⟩ (.int .u64 xs)).drew = w3 at S3 ⊢

        have HR := hid_is (HPD.out.1.fin (by omega) S3.out)
        clear HPD S3
        go_wp2_with fail
        go_ret2
        exact ⟨j2, _, _, rfl, HR.out⟩

      · have gz : ¬ (j2 : Int) < (i2 : Int) := by omega
        have gzd : decide ((j2 : Int) < (i2 : Int)) = false := decide_eq_false gz
        have HL1 := hid_is (HPD.out.2 (by omega))
        have hL0 := hid_is (HU.out (by omega))
        obtain ⟨q, hq⟩ : ∃ q, j2 = q + 1 := ⟨j2 - 1, by have := HPD.out.1.i1; omega⟩
        have HQ := hid_is hq
        have zq : (j2 : Int) - 1 = (q : Int) := by omega
        have hlt : i2 < j2 := by
          have h1 := hL0.out
          have h2 := HL1.out
          have : i2 ≠ j2 := fun e => by rw [e] at h1; rw [h1] at h2; cases h2
          omega
        have bi : (i2 : Int) < (n : Int) := by have := HPD.out.1.jb; have := HPD.out.1.bn; omega
        have bj : (j2 : Int) < (n : Int) := by have := HPD.out.1.jb; have := HPD.out.1.bn; omega
        have hiz : i2 < dk.size := by have := HPD.out.1.sz; omega
        have hjz : j2 < dk.size := by have := HPD.out.1.sz; omega
        have HLT := hid_is hlt
        clear hq

        obtain ⟨xs, hxs⟩ : ∃ x, x = dk[i2]! := ⟨_, rfl⟩
        obtain ⟨ys, hys⟩ : ∃ x, x = dk[j2]! := ⟨_, rfl⟩
        have lxs := HPD.out.1.su.c i2 hiz
        have lys := HPD.out.1.su.c j2 hjz
        have zxs := HPD.out.1.su.z i2 hiz
        have zys := HPD.out.1.su.z j2 hjz
        obtain ⟨us, lus⟩ := HPD.out.1.su.c2 i2 j2 hiz hjz (.int .u64 dk[j2]!)
        have S3 := hid_is (HPD.out.1.su.swap i2 j2 hiz hjz)
        rw [← hxs] at lxs S3
        rw [← hys] at lys lus S3
        clear hxs hys
        go_wp2_with fail
        have mx : Tryd.prog.follows .mixedOrders = true := by kernel_rfl
        go_big_region_o
        clear mx
        clear lxs lys zxs zys lus
        generalize ((wc.setCell ⟨g, i2, none⟩ (.int .u64 ys)).setCell ⟨g, j2, none⟩ (.int .u64 xs)).drew = w3 at S3 ⊢

        have HR : Hid (PT (fun x => ltInt x p) w0 g d0 d a b n p (i2 + 1) q (swp dk i2 j2) w3) := by
          have h := HPD.out.1
          have h1 := hL0.out
          have h2 := HL1.out
          have h3 := HLT.out
          have h4 := S3.out
          show PT (fun x => ltInt x p) w0 g d0 d a b n p (i2 + 1) q (swp dk i2 j2) w3
          rw [HQ.out] at h h2 h3 h4 ⊢
          exact h.xch h3 h1 h2 h4

        clear HPD S3 HL1 hL0 HU
        generalize swp dk i2 j2 = dk1 at *
        go_wp2_with fail
        go_loopg [10, 11] (n + 1) (fun gg vi vj wr => ∃ (i j : Nat) (dk : Array Int), vi = .int .i64 (i : Int) ∧ vj = .int .i64 (j : Int) ∧ j + 1 - i ≤ gg ∧ Hid (PT (fun x => ltInt x p) w0 g d0 d a b n p i j dk wr))
        case atStart => exact ⟨i2 + 1, q, dk1, by go_num, rfl, by have := HQ.out; have := HR.out.jb; have := HR.out.bn; omega, HR⟩
        case round =>
          clear HR HQ bi bj hiz hjz HLT hlt gz gzd hgt hmj zq hmi
          obtain ⟨i, j, dk, rfl, rfl, hg1, HP⟩ := hrel
          go_upto_block 6 with fail
          go_cut [10] (fun vi wx => ∃ i2 : Nat, vi = .int .i64 (i2 : Int) ∧ i ≤ i2 ∧ Hid (PT (fun x => ltInt x p) w0 g d0 d a b n p i2 j dk wx ∧ (i2 ≤ j → (fun x => ltInt x p) dk[i2]! = false)))
          case first =>
            go_wp2_with fail
            go_loopg [10] (n + 1) (fun gs vi wr => ∃ i2 : Nat, vi = .int .i64 (i2 : Int) ∧ n + 1 - i2 ≤ gs ∧ i2 ≤ n ∧ i ≤ i2 ∧ Hid (PT (fun x => ltInt x p) w0 g d0 d a b n p i2 j dk wr))
            case atStart => exact ⟨i, rfl, by have := HP.out.jb; have := HP.out.ij; have := HP.out.bn; omega, by have := HP.out.jb; have := HP.out.ij; have := HP.out.bn; omega, Nat.le_refl _, HP⟩
            case round =>
              clear HP
              obtain ⟨i2, rfl, hm, hmn, hmi, HI⟩ := hrel
              by_cases hle : i2 ≤ j
              · have lez : (i2 : Int) ≤ (j : Int) := by omega
                have led : decide ((i2 : Int) ≤ (j : Int)) = true := decide_eq_true lez
                have bm : (i2 : Int) < (n : Int) := by have := HI.out.jb; have := HI.out.bn; omega
                have ba : (a : Int) < (n : Int) := by have := HI.out.jb; have := HI.out.i1; have := HI.out.ij; have := HI.out.bn; omega
                have hmz : i2 < dk.size := by have := HI.out.sz; omega
                have haz : a < dk.size := by have := HI.out.sz; omega

                obtain ⟨x, hx⟩ : ∃ x, x = dk[a]! := ⟨_, rfl⟩
                obtain ⟨y, hy⟩ : ∃ x, x = dk[i2]! := ⟨_, rfl⟩
                have lx := HI.out.su.c a haz
                have ly := HI.out.su.c i2 hmz
                rw [← hx] at lx
                rw [← hy] at ly
                have Hx : Hid (x = dk[a]! ∧ y = dk[i2]!) := ⟨hx, hy⟩
                clear hx hy

                cases hlv : ltInt y x with
                | false =>
                  have HL : Hid ((fun x => ltInt x p) dk[i2]! = false) := by
                    show ltInt dk[i2]! p = false
                    have hv := hlv
                    rw [Hx.out.1, Hx.out.2, HI.out.pa] at hv
                    rw [hv]
                  have cl1 := fun w => cl y x w
                  rw [hlv] at cl1
                  go_wp2_with fail
                  go_quiet (first | (go_at_call 42; refine Calls.quiet_of_same (cl1 _)))
                  clear cl1
                  have SZ := hid_is (HI.out.dr nq)
                  generalize wr.drewN nq = w2 at SZ ⊢
                  clear HI lx ly
                  go_wp2_with fail
                  go_meet
                  exact ⟨i2, rfl, hmi, (show _ ∧ _ from ⟨SZ.out, fun _ => HL.out⟩)⟩
                | true =>
                  have HL : Hid ((fun x => ltInt x p) dk[i2]! = true) := by
                    show ltInt dk[i2]! p = true
                    have hv := hlv
                    rw [Hx.out.1, Hx.out.2, HI.out.pa] at hv
                    rw [hv]
                  have cl1 := fun w => cl y x w
                  rw [hlv] at cl1
                  go_wp2_with fail
                  go_quiet (first | (go_at_call 42; refine Calls.quiet_of_same (cl1 _)))
                  clear cl1
                  have SZ := hid_is (HI.out.dr nq)
                  generalize wr.drewN nq = w2 at SZ ⊢
                  clear HI lx ly
                  go_wp2_with fail

                  go_roundg (n + 1 - (i2 + 1))
                  case measure => omega
                  case rel => exact ⟨i2 + 1, by go_num, by omega, by have := SZ.out.jb; have := SZ.out.bn; omega, by omega, (show PT (fun x => ltInt x p) w0 g d0 d a b n p _ _ _ _ from SZ.out.up (by omega) HL.out)⟩

              · have lez : ¬ (i2 : Int) ≤ (j : Int) := by omega
                have led : decide ((i2 : Int) ≤ (j : Int)) = false := decide_eq_false lez
                go_wp2_with fail
                go_quiet (fail)
                have SZ := hid_is (HI.out.dr nq)
                generalize wr.drewN nq = w2 at SZ ⊢
                clear HI
                go_wp2_with fail
                go_meet
                exact ⟨i2, rfl, hmi, (show _ ∧ _ from ⟨SZ.out, fun c => absurd c hle⟩)⟩
          case rest =>
            obtain ⟨i2, rfl, hmi, HP2⟩ := hcut
            clear HP
            have HP3 := hid_is HP2.out.1
            have HU := hid_is HP2.out.2
            clear HP2
            go_upto_block 8 with fail
            go_cut [11] (fun vi wx => ∃ j2 : Nat, vi = .int .i64 (j2 : Int) ∧ j2 ≤ j ∧ Hid (PT (fun x => ltInt x p) w0 g d0 d a b n p i2 j2 dk wx ∧ (i2 ≤ j2 → (fun x => ltInt x p) dk[j2]! = true)))
            case first =>
              go_wp2_with fail
              go_loopg [11] (n + 1) (fun gs vi wr => ∃ j2 : Nat, vi = .int .i64 (j2 : Int) ∧ j2 ≤ gs ∧ j2 ≤ j ∧ Hid (PT (fun x => ltInt x p) w0 g d0 d a b n p i2 j2 dk wr))
              case atStart => exact ⟨j, rfl, by have := HP3.out.jb; have := HP3.out.ij; have := HP3.out.bn; omega, Nat.le_refl _, HP3⟩
              case round =>
                clear HP3
                obtain ⟨j2, rfl, hm, hmj, HI⟩ := hrel
                by_cases hle : i2 ≤ j2
                · have lez : (i2 : Int) ≤ (j2 : Int) := by omega
                  have led : decide ((i2 : Int) ≤ (j2 : Int)) = true := decide_eq_true lez
                  have bm : (j2 : Int) < (n : Int) := by have := HI.out.jb; have := HI.out.bn; omega
                  have ba : (a : Int) < (n : Int) := by have := HI.out.jb; have := HI.out.i1; have := HI.out.ij; have := HI.out.bn; omega
                  have hmz : j2 < dk.size := by have := HI.out.sz; omega
                  have haz : a < dk.size := by have := HI.out.sz; omega
                  obtain ⟨q, hq⟩ : ∃ q, j2 = q + 1 := ⟨j2 - 1, by have := HI.out.i1; omega⟩
                  have HQ := hid_is hq
                  have zq : (j2 : Int) - 1 = (q : Int) := by omega
                  have HLE := hid_is hle
                  clear hq
                  obtain ⟨x, hx⟩ : ∃ x, x = dk[a]! := ⟨_, rfl⟩
                  obtain ⟨y, hy⟩ : ∃ x, x = dk[j2]! := ⟨_, rfl⟩
                  have lx := HI.out.su.c a haz
                  have ly := HI.out.su.c j2 hmz
                  rw [← hx] at lx
                  rw [← hy] at ly
                  have Hx : Hid (x = dk[a]! ∧ y = dk[j2]!) := ⟨hx, hy⟩
                  clear hx hy

                  cases hlv : ltInt y x with
                  | false =>
                    have HL : Hid ((fun x => ltInt x p) dk[j2]! = false) := by
                      show ltInt dk[j2]! p = false
                      have hv := hlv
                      rw [Hx.out.1, Hx.out.2, HI.out.pa] at hv
                      rw [hv]
                    have cl1 := fun w => cl y x w
                    rw [hlv] at cl1
                    go_wp2_with fail
                    go_quiet (first | (go_at_call 42; refine Calls.quiet_of_same (cl1 _)))
                    clear cl1
                    have SZ := hid_is (HI.out.dr nq)
                    generalize wr.drewN nq = w2 at SZ ⊢
                    clear HI lx ly
                    go_wp2_with fail

                    go_roundg q
                    case measure => have := HQ.out; omega
                    case rel => exact ⟨q, rfl, by omega, by have := HQ.out; omega, (show PT (fun x => ltInt x p) w0 g d0 d a b n p _ _ _ _ from by
                      have h1 := SZ.out
                      have h2 := HL.out
                      have h3 := HLE.out
                      rw [HQ.out] at h1 h2 h3
                      exact h1.down h3 h2)⟩
                  | true =>
                    have HL : Hid ((fun x => ltInt x p) dk[j2]! = true) := by
                      show ltInt dk[j2]! p = true
                      have hv := hlv
                      rw [Hx.out.1, Hx.out.2, HI.out.pa] at hv
                      rw [hv]
                    have cl1 := fun w => cl y x w
                    rw [hlv] at cl1
                    go_wp2_with fail
                    go_quiet (first | (go_at_call 42; refine Calls.quiet_of_same (cl1 _)))
                    clear cl1
                    have SZ := hid_is (HI.out.dr nq)
                    generalize wr.drewN nq = w2 at SZ ⊢
                    clear HI lx ly
                    go_wp2_with fail
                    go_meet
                    exact ⟨j2, rfl, hmj, (show _ ∧ _ from ⟨SZ.out, fun _ => HL.out⟩)⟩

                · have lez : ¬ (i2 : Int) ≤ (j2 : Int) := by omega
                  have led : decide ((i2 : Int) ≤ (j2 : Int)) = false := decide_eq_false lez
                  go_wp2_with fail
                  go_quiet (fail)
                  have SZ := hid_is (HI.out.dr nq)
                  generalize wr.drewN nq = w2 at SZ ⊢
                  clear HI
                  go_wp2_with fail
                  go_meet
                  exact ⟨j2, rfl, hmj, (show _ ∧ _ from ⟨SZ.out, fun c => absurd c hle⟩)⟩
            case rest =>
              obtain ⟨j2, rfl, hmj, HPD⟩ := hcut
              clear HP3
              by_cases hgt : j2 < i2
              · have gz : (j2 : Int) < (i2 : Int) := by omega
                have gzd : decide ((j2 : Int) < (i2 : Int)) = true := decide_eq_true gz
                have hjn : j2 < dk.size := by have := HPD.out.1.sz; have := HPD.out.1.jb; have := HPD.out.1.bn; omega
                have han2 : a < dk.size := by have := HPD.out.1.sz; have := HPD.out.1.i1; have := HPD.out.1.ij; have := HPD.out.1.jb; have := HPD.out.1.bn; omega
                have bj : (j2 : Int) < (n : Int) := by have := HPD.out.1.sz; omega
                have ba2 : (a : Int) < (n : Int) := by have := HPD.out.1.sz; omega

                obtain ⟨xs, hxs⟩ : ∃ x, x = dk[j2]! := ⟨_, rfl⟩
                obtain ⟨ys, hys⟩ : ∃ x, x = dk[a]! := ⟨_, rfl⟩
                have lxs := HPD.out.1.su.c j2 hjn
                have lys := HPD.out.1.su.c a han2
                have zxs := HPD.out.1.su.z j2 hjn
                have zys := HPD.out.1.su.z a han2
                obtain ⟨us, lus⟩ := HPD.out.1.su.c2 j2 a hjn han2 (.int .u64 dk[a]!)
                have S3 := hid_is (HPD.out.1.su.swap j2 a hjn han2)
                rw [← hxs] at lxs S3
                rw [← hys] at lys lus S3
                clear hxs hys
                go_wp2_with fail
                have mx : Tryd.prog.follows .mixedOrders = true := by kernel_rfl
                go_big_region_o
                clear mx
                clear lxs lys zxs zys lus
                generalize ((wc.setCell ⟨g, j2, none⟩ (.int .u64 ys)).setCell ⟨g, a, none⟩ (.int .u64 xs)).drew = w3 at S3 ⊢

                have HR := hid_is (HPD.out.1.fin (by omega) S3.out)
                clear HPD S3
                go_wp2_with fail
                go_ret2
                exact ⟨j2, _, _, rfl, HR.out⟩

              · have gz : ¬ (j2 : Int) < (i2 : Int) := by omega
                have gzd : decide ((j2 : Int) < (i2 : Int)) = false := decide_eq_false gz
                have HL1 := hid_is (HPD.out.2 (by omega))
                have hL0 := hid_is (HU.out (by omega))
                obtain ⟨q, hq⟩ : ∃ q, j2 = q + 1 := ⟨j2 - 1, by have := HPD.out.1.i1; omega⟩
                have HQ := hid_is hq
                have zq : (j2 : Int) - 1 = (q : Int) := by omega
                have hlt : i2 < j2 := by
                  have h1 := hL0.out
                  have h2 := HL1.out
                  have : i2 ≠ j2 := fun e => by rw [e] at h1; rw [h1] at h2; cases h2
                  omega
                have bi : (i2 : Int) < (n : Int) := by have := HPD.out.1.jb; have := HPD.out.1.bn; omega
                have bj : (j2 : Int) < (n : Int) := by have := HPD.out.1.jb; have := HPD.out.1.bn; omega
                have hiz : i2 < dk.size := by have := HPD.out.1.sz; omega
                have hjz : j2 < dk.size := by have := HPD.out.1.sz; omega
                have HLT := hid_is hlt
                clear hq

                obtain ⟨xs, hxs⟩ : ∃ x, x = dk[i2]! := ⟨_, rfl⟩
                obtain ⟨ys, hys⟩ : ∃ x, x = dk[j2]! := ⟨_, rfl⟩
                have lxs := HPD.out.1.su.c i2 hiz
                have lys := HPD.out.1.su.c j2 hjz
                have zxs := HPD.out.1.su.z i2 hiz
                have zys := HPD.out.1.su.z j2 hjz
                obtain ⟨us, lus⟩ := HPD.out.1.su.c2 i2 j2 hiz hjz (.int .u64 dk[j2]!)
                have S3 := hid_is (HPD.out.1.su.swap i2 j2 hiz hjz)
                rw [← hxs] at lxs S3
                rw [← hys] at lys lus S3
                clear hxs hys
                go_wp2_with fail
                have mx : Tryd.prog.follows .mixedOrders = true := by kernel_rfl
                go_big_region_o
                clear mx
                clear lxs lys zxs zys lus
                generalize ((wc.setCell ⟨g, i2, none⟩ (.int .u64 ys)).setCell ⟨g, j2, none⟩ (.int .u64 xs)).drew = w3 at S3 ⊢

                have HR : Hid (PT (fun x => ltInt x p) w0 g d0 d a b n p (i2 + 1) q (swp dk i2 j2) w3) := by
                  have h := HPD.out.1
                  have h1 := hL0.out
                  have h2 := HL1.out
                  have h3 := HLT.out
                  have h4 := S3.out
                  show PT (fun x => ltInt x p) w0 g d0 d a b n p (i2 + 1) q (swp dk i2 j2) w3
                  rw [HQ.out] at h h2 h3 h4 ⊢
                  exact h.xch h3 h1 h2 h4
                clear HPD S3 HL1 hL0 HU
                go_wp2_with fail
                go_roundg (q + 1 - (i2 + 1))
                case measure => have := HQ.out; omega
                case rel => exact ⟨i2 + 1, q, _, by go_num, rfl, by omega, HR⟩
end

end Go.Proofs.YthkkcnnlfjchaaaDoor
