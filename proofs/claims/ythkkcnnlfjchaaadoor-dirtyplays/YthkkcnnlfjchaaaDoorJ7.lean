/- slices.Sort of []uint64: partitionEqual. -/
import Derived.Test.YthkkcnnlfjchaaaDoorJ6
import Derived.Deep.DeepCutAuto
import Derived.Deep.CutBlock
namespace Go.Proofs.YthkkcnnlfjchaaaDoor
open Go.RowKit Go.Sort

section
variable {w0 W : World} {g : Nat} {d0 d : Array Int}
/-- What a partition has made so far: left of i all go left (L), right of j none does; p stands at a. -/
structure PT (L : Int → Bool) (w0 : World) (g : Nat) (d0 d : Array Int) (a b n : Nat) (p : Int) (i j : Nat) (dk : Array Int) (W : World) : Prop where
  su : SU w0 g d0 dk W
  sz : dk.size = n
  pm : PermIn a b d dk
  pa : dk[a]! = p
  lo : ∀ k, a < k → k < i → L dk[k]! = true
  hi : ∀ k, j < k → k < b → L dk[k]! = false
  i1 : a < i
  ij : i ≤ j + 1
  jb : j < b
  bn : b ≤ n
section
variable {L : Int → Bool} {a b n : Nat} {p : Int} {i j : Nat} {dk : Array Int}
theorem PT.dr (h : PT L w0 g d0 d a b n p i j dk W) (m : Nat) : PT L w0 g d0 d a b n p i j dk (W.drewN m) := ⟨h.su.dr m, h.sz, h.pm, h.pa, h.lo, h.hi, h.i1, h.ij, h.jb, h.bn⟩
theorem PT.up (h : PT L w0 g d0 d a b n p i j dk W) (h1 : i ≤ j) (h2 : L dk[i]! = true) : PT L w0 g d0 d a b n p (i + 1) j dk W :=
  ⟨h.su, h.sz, h.pm, h.pa, fun k k1 k2 => by
    by_cases e : k = i
    · rw [e]; exact h2
    · exact h.lo k k1 (by omega), h.hi, by have := h.i1; omega, by omega, h.jb, h.bn⟩
theorem PT.down {q : Nat} (h : PT L w0 g d0 d a b n p i (q + 1) dk W) (h1 : i ≤ q + 1) (h2 : L dk[q + 1]! = false) : PT L w0 g d0 d a b n p i q dk W :=
  ⟨h.su, h.sz, h.pm, h.pa, h.lo, fun k k1 k2 => by
    by_cases e : k = q + 1
    · rw [e]; exact h2
    · exact h.hi k (by omega) k2, h.i1, h1, by have := h.jb; omega, h.bn⟩
theorem PT.xch {q : Nat} {w3 : World} (h : PT L w0 g d0 d a b n p i (q + 1) dk W) (h1 : i < q + 1) (h2 : L dk[i]! = false) (h3 : L dk[q + 1]! = true) (S : SU w0 g d0 (swp dk i (q + 1)) w3) : PT L w0 g d0 d a b n p (i + 1) q (swp dk i (q + 1)) w3 := by
  have hi := h.i1
  have hj := h.jb
  have hb := h.bn
  have hs := h.sz
  refine ⟨S, by rw [size_swp]; exact hs, permIn_trans _ _ _ _ _ h.pm (swp_permIn _ _ _ _ _ (by omega) (by omega) (by omega) (by omega) (by omega)), ?_, fun k k1 k2 => ?_, fun k k1 k2 => ?_, by omega, by omega, by omega, hb⟩
  · rw [swp_other _ _ _ _ (by omega) (by omega)]; exact h.pa
  · by_cases e : k = i
    · rw [e, swp_left _ _ _ (by omega) (by omega)]; exact h3
    · rw [swp_other _ _ _ _ e (by omega)]; exact h.lo k k1 (by omega)
  · by_cases e : k = q + 1
    · rw [e, swp_right _ _ _ (by omega)]; exact h2
    · rw [swp_other _ _ _ _ (by omega) e]; exact h.hi k (by omega) k2
end

set_option maxRecDepth 100000 in
set_option maxHeartbeats 16000000 in
theorem peqU_any (S : SU w0 g d0 d W) (a b pv cap n : Nat) (hn : n = d.size) (h1 : a ≤ pv) (h2 : pv < b) (hb : b ≤ n) (hl : n ≤ 1000000) :
    Calls Tryd.prog 43 #[.slice (some ⟨g, 0, none⟩) n cap, .int .i64 (a : Int), .int .i64 (b : Int), .int .i64 (pv : Int)] W fun e W' => ∃ (m : Nat) (d' : Array Int), e = .returned (.int .i64 (m : Int)) ∧ SU w0 g d0 d' W' ∧ a < m ∧ m ≤ b ∧ PermIn a b d d' ∧ (∀ k, a ≤ k → k < m → ltInt d[pv]! d'[k]! = false) ∧ (∀ k, m ≤ k → k < b → ltInt d[pv]! d'[k]! = true) := by
  have HA : Hid (n = d.size ∧ a ≤ pv ∧ pv < b ∧ b ≤ n ∧ n ≤ 1000000) := ⟨hn, h1, h2, hb, hl⟩
  have cl := fun x y w => wless_any x y w
  have HS := hid_is S
  obtain ⟨p, hp⟩ : ∃ p, p = d[pv]! := ⟨_, rfl⟩
  rw [← hp]
  have han : a < d.size := by omega
  have hpn : pv < d.size := by omega
  have ba : (a : Int) < (n : Int) := by omega
  have bp : (pv : Int) < (n : Int) := by omega
  obtain ⟨b1, hb1⟩ : ∃ b1, b = b1 + 1 := ⟨b - 1, by omega⟩
  have zb : (b : Int) - 1 = (b1 : Int) := by omega
  have bb : (b : Int) ≤ 1000000 := by omega
  have HB : Hid (b = b1 + 1 ∧ p = d[pv]!) := ⟨hb1, hp⟩
  clear S hn h1 h2 hb hb1 hp
  go_enter Tryd.func43, Tryd.ntmps43
  obtain ⟨xs, hxs⟩ : ∃ x, x = d[a]! := ⟨_, rfl⟩
  obtain ⟨ys, hys⟩ : ∃ x, x = d[pv]! := ⟨_, rfl⟩
  have lxs := HS.out.c a han
  have lys := HS.out.c pv hpn
  have zxs := HS.out.z a han
  have zys := HS.out.z pv hpn
  obtain ⟨us, lus⟩ := HS.out.c2 a pv han hpn (.int .u64 d[pv]!)
  have S3 := hid_is (HS.out.swap a pv han hpn)
  rw [← hxs] at lxs S3
  rw [← hys] at lys lus S3
  clear hxs hys
  go_wp2_with fail
  have mx : Tryd.prog.follows .mixedOrders = true := by kernel_rfl
  go_big_region_o
  clear mx
  clear lxs lys zxs zys lus
  generalize ((W.setCell ⟨g, a, none⟩ (.int .u64 ys)).setCell ⟨g, pv, none⟩ (.int .u64 xs)).drew = w3 at S3 ⊢

  have P0 : Hid (PT (fun x => !ltInt p x) w0 g d0 d a b n p (a + 1) b1 (swp d a pv) w3) := by
    have hA := HA.out
    have hB := HB.out
    refine ⟨S3.out, by rw [size_swp]; exact hA.1.symm, swp_permIn _ _ _ _ _ (by omega) (by omega) (by omega) (by omega) (by omega), ?_, fun k k1 k2 => by omega, fun k k1 k2 => by omega, by omega, by omega, by omega, hA.2.2.2.1⟩
    rw [hB.2]
    by_cases e : a = pv
    · subst e; rw [swp_right _ _ _ (by omega)]
    · exact swp_left _ _ _ (by omega) e
  clear S3 bp
  generalize swp d a pv = d1 at *
  go_wp2_with fail
  go_loopg [9, 10] (n + 1) (fun gg vi vj wr => ∃ (i j : Nat) (dk : Array Int), vi = .int .i64 (i : Int) ∧ vj = .int .i64 (j : Int) ∧ j + 1 - i ≤ gg ∧ Hid (PT (fun x => !ltInt p x) w0 g d0 d a b n p i j dk wr))
  case atStart => exact ⟨a + 1, b1, d1, by go_num, rfl, by have := HA.out; have := HB.out; omega, P0⟩
  case round =>
    clear P0
    obtain ⟨i, j, dk, rfl, rfl, hg1, HP⟩ := hrel
    go_upto_block 2 with fail
    go_cut [9] (fun vi wx => ∃ i2 : Nat, vi = .int .i64 (i2 : Int) ∧ i ≤ i2 ∧ Hid (PT (fun x => !ltInt p x) w0 g d0 d a b n p i2 j dk wx ∧ (i2 ≤ j → (fun x => !ltInt p x) dk[i2]! = false)))
    case first =>
      go_wp2_with fail
      go_loopg [9] (n + 1) (fun gs vi wr => ∃ i2 : Nat, vi = .int .i64 (i2 : Int) ∧ n + 1 - i2 ≤ gs ∧ i2 ≤ n ∧ i ≤ i2 ∧ Hid (PT (fun x => !ltInt p x) w0 g d0 d a b n p i2 j dk wr))
      case atStart => exact ⟨i, rfl, by have := HP.out.jb; have := HP.out.ij; have := HP.out.bn; omega, by have := HP.out.jb; have := HP.out.ij; have := HP.out.bn; omega, Nat.le_refl _, HP⟩
      case round =>
        clear HP
        obtain ⟨i2, rfl, hm, hmn, hmi, HI⟩ := hrel
        by_cases hle : i2 ≤ j
        · have lez : (i2 : Int) ≤ (j : Int) := by omega
          have led : decide ((i2 : Int) ≤ (j : Int)) = true := decide_eq_true lez
          have bm : (i2 : Int) < (n : Int) := by have := HI.out.jb; have := HI.out.bn; omega
          have ba : (a : Int) < (n : Int) := by have := HI.out.jb; have := HI.out.i1; have := HI.out.ij; have := HI.out.bn; omega
          have hmz : i2 < dk.size := by have := HI.out.sz; omega
          have haz : a < dk.size := by have := HI.out.sz; omega

          obtain ⟨x, hx⟩ : ∃ x, x = dk[a]! := ⟨_, rfl⟩
          obtain ⟨y, hy⟩ : ∃ x, x = dk[i2]! := ⟨_, rfl⟩
          have lx := HI.out.su.c a haz
          have ly := HI.out.su.c i2 hmz
          rw [← hx] at lx
          rw [← hy] at ly
          have Hx : Hid (x = dk[a]! ∧ y = dk[i2]!) := ⟨hx, hy⟩
          clear hx hy

          cases hlv : ltInt x y with
          | false =>
            have HL : Hid ((fun x => !ltInt p x) dk[i2]! = true) := by
              show (!ltInt p dk[i2]!) = true
              have hv := hlv
              rw [Hx.out.1, Hx.out.2, HI.out.pa] at hv
              rw [hv]; rfl
            have cl1 := fun w => cl x y w
            rw [hlv] at cl1
            go_wp2_with fail
            go_quiet (first | (go_at_call 42; refine Calls.quiet_of_same (cl1 _)))
            clear cl1
            have SZ := hid_is (HI.out.dr nq)
            generalize wr.drewN nq = w2 at SZ ⊢
            clear HI lx ly
            go_wp2_with fail

            go_roundg (n + 1 - (i2 + 1))
            case measure => omega
            case rel => exact ⟨i2 + 1, by go_num, by omega, by have := SZ.out.jb; have := SZ.out.bn; omega, by omega, (show PT (fun x => !ltInt p x) w0 g d0 d a b n p _ _ _ _ from SZ.out.up (by omega) HL.out)⟩
          | true =>
            have HL : Hid ((fun x => !ltInt p x) dk[i2]! = false) := by
              show (!ltInt p dk[i2]!) = false
              have hv := hlv
              rw [Hx.out.1, Hx.out.2, HI.out.pa] at hv
              rw [hv]; rfl
            have cl1 := fun w => cl x y w
            rw [hlv] at cl1
            go_wp2_with fail
            go_quiet (first | (go_at_call 42; refine Calls.quiet_of_same (cl1 _)))
            clear cl1
            have SZ := hid_is (HI.out.dr nq)
            generalize wr.drewN nq = w2 at SZ ⊢
            clear HI lx ly
            go_wp2_with fail
            go_meet
            exact ⟨i2, rfl, hmi, (show _ ∧ _ from ⟨SZ.out, fun _ => HL.out⟩)⟩

        · have lez : ¬ (i2 : Int) ≤ (j : Int) := by omega
          have led : decide ((i2 : Int) ≤ (j : Int)) = false := decide_eq_false lez
          go_wp2_with fail
          go_quiet (fail)
          have SZ := hid_is (HI.out.dr nq)
          generalize wr.drewN nq = w2 at SZ ⊢
          clear HI
          go_wp2_with fail
          go_meet
          exact ⟨i2, rfl, hmi, (show _ ∧ _ from ⟨SZ.out, fun c => absurd c hle⟩)⟩
    case rest =>
      obtain ⟨i2, rfl, hmi, HP2⟩ := hcut
      clear HP
      have HP3 := hid_is HP2.out.1
      have HU := hid_is HP2.out.2
      clear HP2
      go_upto_block 4 with fail
      go_cut [10] (fun vi wx => ∃ j2 : Nat, vi = .int .i64 (j2 : Int) ∧ j2 ≤ j ∧ Hid (PT (fun x => !ltInt p x) w0 g d0 d a b n p i2 j2 dk wx ∧ (i2 ≤ j2 → (fun x => !ltInt p x) dk[j2]! = true)))
      case first =>
        go_wp2_with fail
        go_loopg [10] (n + 1) (fun gs vi wr => ∃ j2 : Nat, vi = .int .i64 (j2 : Int) ∧ j2 ≤ gs ∧ j2 ≤ j ∧ Hid (PT (fun x => !ltInt p x) w0 g d0 d a b n p i2 j2 dk wr))
        case atStart => exact ⟨j, rfl, by have := HP3.out.jb; have := HP3.out.ij; have := HP3.out.bn; omega, Nat.le_refl _, HP3⟩
        case round =>
          clear HP3
          obtain ⟨j2, rfl, hm, hmj, HI⟩ := hrel
          by_cases hle : i2 ≤ j2
          · have lez : (i2 : Int) ≤ (j2 : Int) := by omega
            have led : decide ((i2 : Int) ≤ (j2 : Int)) = true := decide_eq_true lez
            have bm : (j2 : Int) < (n : Int) := by have := HI.out.jb; have := HI.out.bn; omega
            have ba : (a : Int) < (n : Int) := by have := HI.out.jb; have := HI.out.i1; have := HI.out.ij; have := HI.out.bn; omega
            have hmz : j2 < dk.size := by have := HI.out.sz; omega
            have haz : a < dk.size := by have := HI.out.sz; omega
            obtain ⟨q, hq⟩ : ∃ q, j2 = q + 1 := ⟨j2 - 1, by have := HI.out.i1; omega⟩
            have HQ := hid_is hq
            have zq : (j2 : Int) - 1 = (q : Int) := by omega
            have HLE := hid_is hle
            clear hq
            obtain ⟨x, hx⟩ : ∃ x, x = dk[a]! := ⟨_, rfl⟩
            obtain ⟨y, hy⟩ : ∃ x, x = dk[j2]! := ⟨_, rfl⟩
            have lx := HI.out.su.c a haz
            have ly := HI.out.su.c j2 hmz
            rw [← hx] at lx
            rw [← hy] at ly
            have Hx : Hid (x = dk[a]! ∧ y = dk[j2]!) := ⟨hx, hy⟩
            clear hx hy

            cases hlv : ltInt x y with
            | false =>
              have HL : Hid ((fun x => !ltInt p x) dk[j2]! = true) := by
                show (!ltInt p dk[j2]!) = true
                have hv := hlv
                rw [Hx.out.1, Hx.out.2, HI.out.pa] at hv
                rw [hv]; rfl
              have cl1 := fun w => cl x y w
              rw [hlv] at cl1
              go_wp2_with fail
              go_quiet (first | (go_at_call 42; refine Calls.quiet_of_same (cl1 _)))
              clear cl1
              have SZ := hid_is (HI.out.dr nq)
              generalize wr.drewN nq = w2 at SZ ⊢
              clear HI lx ly
              go_wp2_with fail
              go_meet
              exact ⟨j2, rfl, hmj, (show _ ∧ _ from ⟨SZ.out, fun _ => HL.out⟩)⟩
            | true =>
              have HL : Hid ((fun x => !ltInt p x) dk[j2]! = false) := by
                show (!ltInt p dk[j2]!) = false
                have hv := hlv
                rw [Hx.out.1, Hx.out.2, HI.out.pa] at hv
                rw [hv]; rfl
              have cl1 := fun w => cl x y w
              rw [hlv] at cl1
              go_wp2_with fail
              go_quiet (first | (go_at_call 42; refine Calls.quiet_of_same (cl1 _)))
              clear cl1
              have SZ := hid_is (HI.out.dr nq)
              generalize wr.drewN nq = w2 at SZ ⊢
              clear HI lx ly
              go_wp2_with fail

              go_roundg q
              case measure => have := HQ.out; omega
              case rel => exact ⟨q, rfl, by omega, by have := HQ.out; omega, (show PT (fun x => !ltInt p x) w0 g d0 d a b n p _ _ _ _ from by
                have h1 := SZ.out
                have h2 := HL.out
                have h3 := HLE.out
                rw [HQ.out] at h1 h2 h3
                exact h1.down h3 h2)⟩

          · have lez : ¬ (i2 : Int) ≤ (j2 : Int) := by omega
            have led : decide ((i2 : Int) ≤ (j2 : Int)) = false := decide_eq_false lez
            go_wp2_with fail
            go_quiet (fail)
            have SZ := hid_is (HI.out.dr nq)
            generalize wr.drewN nq = w2 at SZ ⊢
            clear HI
            go_wp2_with fail
            go_meet
            exact ⟨j2, rfl, hmj, (show _ ∧ _ from ⟨SZ.out, fun c => absurd c hle⟩)⟩
      case rest =>
        obtain ⟨j2, rfl, hmj, HPD⟩ := hcut
        clear HP3
        by_cases hgt : j2 < i2
        · have gz : (j2 : Int) < (i2 : Int) := by omega
          have gzd : decide ((j2 : Int) < (i2 : Int)) = true := decide_eq_true gz
          have HR : Hid (SU w0 g d0 dk wc ∧ a < i2 ∧ i2 ≤ b ∧ PermIn a b d dk ∧ (∀ k, a ≤ k → k < i2 → ltInt p dk[k]! = false) ∧ (∀ k, i2 ≤ k → k < b → ltInt p dk[k]! = true)) := by
            have h := HPD.out.1
            have h1 := h.ij
            have h2 := h.jb
            refine ⟨h.su, h.i1, by omega, h.pm, fun k k1 k2 => ?_, fun k k1 k2 => ?_⟩
            · by_cases e : k = a
              · rw [e, h.pa]; exact swo_ltInt.irrefl p
              · have := h.lo k (by omega) k2
                simpa using this
            · have := h.hi k (by omega) k2
              simpa using this
          clear HPD HU
          go_wp2_with fail
          go_ret
          exact ⟨i2, dk, rfl, HR.out⟩
        · have gz : ¬ (j2 : Int) < (i2 : Int) := by omega
          have gzd : decide ((j2 : Int) < (i2 : Int)) = false := decide_eq_false gz
          have HL1 := hid_is (HPD.out.2 (by omega))
          have hL0 := hid_is (HU.out (by omega))
          obtain ⟨q, hq⟩ : ∃ q, j2 = q + 1 := ⟨j2 - 1, by have := HPD.out.1.i1; omega⟩
          have HQ := hid_is hq
          have zq : (j2 : Int) - 1 = (q : Int) := by omega
          have hlt : i2 < j2 := by
            have h1 := hL0.out
            have h2 := HL1.out
            have : i2 ≠ j2 := fun e => by rw [e] at h1; rw [h1] at h2; cases h2
            omega
          have bi : (i2 : Int) < (n : Int) := by have := HPD.out.1.jb; have := HPD.out.1.bn; omega
          have bj : (j2 : Int) < (n : Int) := by have := HPD.out.1.jb; have := HPD.out.1.bn; omega
          have hiz : i2 < dk.size := by have := HPD.out.1.sz; omega
          have hjz : j2 < dk.size := by have := HPD.out.1.sz; omega
          have HLT := hid_is hlt
          clear hq

          obtain ⟨xs, hxs⟩ : ∃ x, x = dk[i2]! := ⟨_, rfl⟩
          obtain ⟨ys, hys⟩ : ∃ x, x = dk[j2]! := ⟨_, rfl⟩
          have lxs := HPD.out.1.su.c i2 hiz
          have lys := HPD.out.1.su.c j2 hjz
          have zxs := HPD.out.1.su.z i2 hiz
          have zys := HPD.out.1.su.z j2 hjz
          obtain ⟨us, lus⟩ := HPD.out.1.su.c2 i2 j2 hiz hjz (.int .u64 dk[j2]!)
          have S3 := hid_is (HPD.out.1.su.swap i2 j2 hiz hjz)
          rw [← hxs] at lxs S3
          rw [← hys] at lys lus S3
          clear hxs hys
          go_wp2_with fail
          have mx : Tryd.prog.follows .mixedOrders = true := by kernel_rfl
          go_big_region_o
          clear mx
          clear lxs lys zxs zys lus
          generalize ((wc.setCell ⟨g, i2, none⟩ (.int .u64 ys)).setCell ⟨g, j2, none⟩ (.int .u64 xs)).drew = w3 at S3 ⊢

          have HR : Hid (PT (fun x => !ltInt p x) w0 g d0 d a b n p (i2 + 1) q (swp dk i2 j2) w3) := by
            have h := HPD.out.1
            have h1 := hL0.out
            have h2 := HL1.out
            have h3 := HLT.out
            have h4 := S3.out
            show PT (fun x => !ltInt p x) w0 g d0 d a b n p (i2 + 1) q (swp dk i2 j2) w3
            rw [HQ.out] at h h2 h3 h4 ⊢
            exact h.xch h3 h1 h2 h4
          clear HPD S3 HL1 hL0 HU
          go_wp2_with fail
          go_roundg (q + 1 - (i2 + 1))
          case measure => have := HQ.out; omega
          case rel => exact ⟨i2 + 1, q, _, by go_num, rfl, by omega, HR⟩
end

end Go.Proofs.YthkkcnnlfjchaaaDoor
