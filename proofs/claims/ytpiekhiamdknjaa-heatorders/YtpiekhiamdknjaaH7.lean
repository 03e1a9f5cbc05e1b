/- heat.Coldest: a loop left and begun anew by goto. -/
import Derived.Test.YtpiekhiamdknjaaH6
import Derived.WalkMore
import Derived.ScopeJumps
import Derived.BigRegion
namespace Go.Proofs.Ytpiekhiamdknjaa
open Go.RowKit Go.Sort Go.Shelf Go.Lib

/-- The coldest of the first k places that may be; -1: there is none. -/
def coldI (nb : Nat → Bool) (m : Nat) (h : Nat → Int × Int) : Nat → Int
  | 0 => -1
  | k + 1 => if k < m ∧ nb k = true then coldI nb m h k else if coldI nb m h k < 0 then k else if hlt (h k) (h (coldI nb m h k).toNat) = true then k else coldI nb m h k

theorem coldI_lt (nb : Nat → Bool) (m : Nat) (h : Nat → Int × Int) : ∀ k, -1 ≤ coldI nb m h k ∧ coldI nb m h k < k
  | 0 => ⟨by simp [coldI], by simp [coldI]⟩
  | k + 1 => by
    have := coldI_lt nb m h k
    unfold coldI
    split
    · omega
    · split
      · omega
      · split <;> omega

/-- m marks lie in w at na. -/
def NS (w : World) (na : Option Addr) (m : Nat) (nb : Nat → Bool) : Prop := ∀ i, i < m → ∃ b o, na = some ⟨b, o, none⟩ ∧ b < w.heap.size ∧ w.cell? ⟨b, o + i, none⟩ = some (.bool (nb i))
theorem NS.gr {w w' : World} {na : Option Addr} {m : Nat} {nb : Nat → Bool} (H : NS w na m nb) (g : Gr w w') : NS w' na m nb := fun i hi => by
  obtain ⟨b, o, h1, h2, h3⟩ := H i hi
  exact ⟨b, o, h1, Nat.lt_of_lt_of_le h2 g.size, g.cell h2 h3⟩

theorem jump_mono {P : Program} {c : Code} {l : Nat} {J J' : Act → World → Prop} {Q : Exit → Act → World → Prop} {a : Act} {w : World} (hJ : ∀ a w, J' a w → J a w) (h : c.wp P (Exit.jump l J' Q) a w) : c.wp P (Exit.jump l J Q) a w :=
  Code.wp_mono (fun e a w => by
    cases e with
    | goto l' => exact fun hq => ⟨hq.1, hJ _ _ hq.2⟩
    | _ => exact id) h

/-- A scope that is left to its one label again and again: the rest behind the label is walked once. -/
theorem scope_again {P : Program} {c X : Code} {a : Act} {w : World} {Q : Exit → Act → World → Prop} (l : Nat) (J : Act → World → Prop) (μ : Act → World → Nat) (hf : findLabel c l = some (Code.skip.seq X))
    (first : (∀ a w, J a w → X.wp P (Exit.jump l J Q) a w) → c.wp P (Exit.jump l J Q) a w)
    (pass : ∀ a w, J a w → X.wp P (Exit.jump l (fun a' w' => J a' w' ∧ μ a' w' < μ a w) Q) a w) : (Code.scope c).wp P Q a w :=
  wp_scope_jumps l J μ hf (first fun a w hJ => jump_mono (fun _ _ h => h.1) (pass a w hJ)) (fun a w hJ => wp_seq (wp_skip (pass a w hJ)))

set_option maxHeartbeats 4000000 in
set_option maxRecDepth 1000000 in
theorem coldest_any (hb ho n cap : Nat) (A B : Nat → Nat) (h : Nat → Int × Int) (na : Option Addr) (m mcap : Nat) (nb : Nat → Bool) (w : World) (H : HS w hb ho n A B h) (N : NS w na m nb) (hn : n ≤ 1000) :
    Calls Try.prog 15 #[.slice (some ⟨hb, ho, none⟩) n cap, .slice na m mcap] w fun e w' => e = .returned (.int .i64 (coldI nb m h n)) ∧ Gr w w' := by
  have mixed : Try.prog.follows .mixedOrders = true := by kernel_rfl
  have HH : Aside (HS w hb ho n A B h) := H
  have NN : Aside (NS w na m nb) := N
  clear H N
  go_enter Try.func15, Try.ntmps15
  go_wp2_with fail
  refine scope_again 0 (fun a' w' => Hid (Gr w w') ∧ ∃ (k : Nat) (u2 u3 u7 u8 u9 u10 u11 u12 u13 u14 u15 u16 u17 u18 u19 u20 u21 u22 u23 u24 u25 u26 u27 u28 u29 u30 u31 u32 u33 u34 u35 u36 u37 u38 u39 u40 u41 u42 : Value), a' = { tmps := #[.slice (some ⟨hb, ho, none⟩) n cap, .slice na m mcap, u2, u3, .int .i64 0, .int .i64 (coldI nb m h k), .int .i64 k, u7, u8, u9, u10, u11, u12, u13, u14, u15, u16, u17, u18, u19, u20, u21, u22, u23, u24, u25, u26, u27, u28, u29, u30, u31, u32, u33, u34, u35, u36, u37, u38, u39, u40, u41, u42], defers := [] } ∧ k ≤ n) (fun a' _ => n - (intOf (a'.tmps.getD 6 undef)).toNat) rfl (fun pass => ?_) ?_
  · go_wp2_with fail
    go_step3
    rename_i hK
    exact hK _ _ (pass _ _ ⟨Gr.refl w, 0, _, _, _, _, _, _, _, _, _, _, _, _, _, _, _, _, _, _, _, _, _, _, _, _, _, _, _, _, _, _, _, _, _, _, _, _, _, _, rfl, Nat.zero_le _⟩)
  · rintro a' w' ⟨G, k, u2, u3, u7, u8, u9, u10, u11, u12, u13, u14, u15, u16, u17, u18, u19, u20, u21, u22, u23, u24, u25, u26, u27, u28, u29, u30, u31, u32, u33, u34, u35, u36, u37, u38, u39, u40, u41, u42, rfl, hk⟩
    obtain ⟨c, hc⟩ : ∃ c, coldI nb m h k = c := ⟨_, rfl⟩
    rw [hc]
    have C : Hid (coldI nb m h k = c) := hc
    clear hc
    have cl := coldI_lt nb m h k
    rw [C.out] at cl
    obtain ⟨cl1, cl2⟩ := cl
    go_wp2_with fail
    go_loopg [5, 6, 7] n (fun g v5 v6 v7 wr => ∃ k' : Nat, v5 = .int .i64 c ∧ v6 = .int .i64 k ∧ v7 = .int .i64 k' ∧ k ≤ k' ∧ k' ≤ n ∧ n - k' ≤ g ∧ Hid (coldI nb m h k' = c) ∧ Hid (Gr w wr))
    case atStart => exact ⟨k, rfl, rfl, rfl, Nat.le_refl _, hk, by omega, C, G⟩
    case round =>
      clear G
      obtain ⟨k', rfl, rfl, rfl, hk1, hk2, hg, C', G⟩ := hrel
      by_cases hkn : k' < n
      · have y1 : (k' : Int) < n := by omega
        have e1 : (k' : Int).toNat = k' := by omega
        by_cases hex : k' < m ∧ nb k' = true
        · -- the place may not be
          obtain ⟨b, o, rfl, hb1, hb2⟩ := (NN.out.gr G.out) k' hex.1
          rw [hex.2] at hb2
          have y2 : (k' : Int) < m := by have := hex.1; omega
          have C2 : Hid (coldI nb m h (k' + 1) = c) := by show coldI nb m h (k' + 1) = c; rw [coldI, if_pos hex]; exact C'.out
          clear hex
          go_wp2
          go_roundg (n - (k' + 1))
          case measure => omega
          case rel => exact ⟨k' + 1, rfl, rfl, by go_num, by omega, by omega, by omega, C2, G⟩
        · have goon : ∀ Z : Prop, (k' < m → (∃ b o, na = some ⟨b, o, none⟩ ∧ b < wr.heap.size ∧ wr.cell? ⟨b, o + k', none⟩ = some (.bool false)) → Z) → (¬ k' < m → Z) → Z := fun Z h1 h2 => by
            by_cases hm : k' < m
            · obtain ⟨b, o, g1, g2, g3⟩ := (NN.out.gr G.out) k' hm
              have : nb k' = false := by cases e : nb k' with | false => rfl | true => exact absurd ⟨hm, e⟩ hex
              rw [this] at g3
              exact h1 hm ⟨b, o, g1, g2, g3⟩
            · exact h2 hm
          have C2 : coldI nb m h (k' + 1) = if c < 0 then (k' : Int) else if hlt (h k') (h c.toNat) = true then (k' : Int) else c := by rw [coldI, if_neg hex, C'.out]
          have CC : Aside _ := C2
          have HK : Aside (HS wr hb ho n A B h) := HH.out.gr G.out
          clear hex C2
          by_cases hc0 : c < 0
          · have hc0' : decide (c < 0) = true := decide_eq_true hc0
            have C3 : Hid (coldI nb m h (k' + 1) = k') := by have := CC.out; rwa [if_pos hc0] at this
            refine goon _ (fun hm => ?_) (fun hm => ?_)
            · rintro ⟨b, o, rfl, hb1, hb2⟩
              have y2 : (k' : Int) < m := by omega
              clear goon
              go_wp2_with fail
              go_big_region_o
              go_wp2_with fail
              go_step3
              refine ⟨rfl, ⟨(show Hid _ from G.out.trans (Gr.drew _)), k' + 1, _, _, _, _, _, _, _, _, _, _, _, _, _, _, _, _, _, _, _, _, _, _, _, _, _, _, _, _, _, _, _, _, _, _, _, _, _, _, (by rw [C3.out]; rfl), by omega⟩, ?_⟩
              simp [intOf]
              omega
            · have y2 : ¬ (k' : Int) < m := by omega
              clear goon
              go_wp2_with fail
              go_big_region_o
              go_wp2_with fail
              go_step3
              refine ⟨rfl, ⟨(show Hid _ from G.out.trans (Gr.drew _)), k' + 1, _, _, _, _, _, _, _, _, _, _, _, _, _, _, _, _, _, _, _, _, _, _, _, _, _, _, _, _, _, _, _, _, _, _, _, _, _, _, (by rw [C3.out]; rfl), by omega⟩, ?_⟩
              simp [intOf]
              omega
          · obtain ⟨cn, rfl⟩ : ∃ cn : Nat, c = cn := ⟨c.toNat, by omega⟩
            have hcd : decide ((cn : Int) < 0) = false := decide_eq_false hc0
            have ecn : (cn : Int).toNat = cn := by omega
            have hcn : cn < n := by omega
            have ycn : (cn : Int) < n := by omega
            have CC2 := CC.out
            rw [if_neg hc0, ecn] at CC2
            have k2 := fun q os => cell_grown (w := wr) (a := ⟨hb, ho + k', none⟩) HK.out.lt (HK.out.cell k' hkn) q os
            have k3 := fun q os => cell_grown (w := wr) (a := ⟨hb, ho + cn, none⟩) HK.out.lt (HK.out.cell cn hcn) q os
            have c1 : ∀ q os, Calls Try.prog 24 #[.complex .f64 (A k') (B k'), .complex .f64 (A cn) (B cn)] (grow (wr.drewN q) os) fun e w' => e = .returned (.int .i64 (hcmp (h k') (h cn))) ∧ ∃ q' os', w' = grow ((grow (wr.drewN q) os).drewN q') os' :=
              fun q os => compare_any _ _ _ _ (h k') (h cn) _ (HK.out.fa k' hkn) (HK.out.fb k' hkn) (HK.out.fa cn hcn) (HK.out.fb cn hcn) (HK.out.rh k' hkn) (HK.out.rh cn hcn)
            have hd := hcmp_neg (h k') (h cn)
            cases hv : hlt (h k') (h cn) with
            | true =>
              have C3 : Hid (coldI nb m h (k' + 1) = k') := by show _ = _; rw [CC2, if_pos hv]
              rw [hv] at hd
              have hd' : hcmp (h k') (h cn) < 0 := of_decide_eq_true hd
              clear hv CC2 CC HK
              generalize hcmp (h k') (h cn) = r at c1 hd hd'
              refine goon _ (fun hm => ?_) (fun hm => ?_)
              · rintro ⟨b, o, rfl, hb1, hb2⟩
                have y2 : (k' : Int) < m := by omega
                clear goon
                go_wp2_with fail
                go_quiet_grown (first | (go_at_call 24; refine Calls.grown_of (c1 _ _)))
                go_wp2_with fail
                go_step3
                refine ⟨rfl, ⟨(show Hid _ from G.out.trans ⟨nq, osq, rfl⟩), k' + 1, _, _, _, _, _, _, _, _, _, _, _, _, _, _, _, _, _, _, _, _, _, _, _, _, _, _, _, _, _, _, _, _, _, _, _, _, _, _, (by rw [C3.out]; rfl), by omega⟩, ?_⟩
                simp [intOf]
                omega
              · have y2 : ¬ (k' : Int) < m := by omega
                clear goon
                go_wp2_with fail
                go_quiet_grown (first | (go_at_call 24; refine Calls.grown_of (c1 _ _)))
                go_wp2_with fail
                go_step3
                refine ⟨rfl, ⟨(show Hid _ from G.out.trans ⟨nq, osq, rfl⟩), k' + 1, _, _, _, _, _, _, _, _, _, _, _, _, _, _, _, _, _, _, _, _, _, _, _, _, _, _, _, _, _, _, _, _, _, _, _, _, _, _, (by rw [C3.out]; rfl), by omega⟩, ?_⟩
                simp [intOf]
                omega
            | false =>
              have C3 : Hid (coldI nb m h (k' + 1) = cn) := by show _ = _; rw [CC2, if_neg (by rw [hv]; decide)]
              rw [hv] at hd
              have hd' : ¬ hcmp (h k') (h cn) < 0 := of_decide_eq_false hd
              clear hv CC2 CC HK
              generalize hcmp (h k') (h cn) = r at c1 hd hd'
              refine goon _ (fun hm => ?_) (fun hm => ?_)
              · rintro ⟨b, o, rfl, hb1, hb2⟩
                have y2 : (k' : Int) < m := by omega
                clear goon
                go_wp2_with fail
                go_quiet_grown (first | (go_at_call 24; refine Calls.grown_of (c1 _ _)))
                go_wp2
                go_roundg (n - (k' + 1))
                case measure => omega
                case rel => exact ⟨k' + 1, rfl, rfl, by go_num, by omega, by omega, by omega, C3, (show Hid _ from G.out.trans ⟨nq, osq, rfl⟩)⟩
              · have y2 : ¬ (k' : Int) < m := by omega
                clear goon
                go_wp2_with fail
                go_quiet_grown (first | (go_at_call 24; refine Calls.grown_of (c1 _ _)))
                go_wp2
                go_roundg (n - (k' + 1))
                case measure => omega
                case rel => exact ⟨k' + 1, rfl, rfl, by go_num, by omega, by omega, by omega, C3, (show Hid _ from G.out.trans ⟨nq, osq, rfl⟩)⟩
      · have y1 : ¬ (k' : Int) < n := by omega
        have e : k' = n := by omega
        subst e
        go_wp2_with fail
        simp only [Exit.jump]
        go_ret
        exact ⟨by rw [C'.out]; rfl, G.out⟩
end Go.Proofs.Ytpiekhiamdknjaa
