/- Joined: R25, R26, R27. -/
import Derived.Test.YtcankhnnikhblaaGreatDoorJRD
/- stage2: clear, apart from any program: a leaf goes, and with it what tables become empty. -/
namespace Go.Proofs.YtcankhnnikhblaaGreatDoor
open Go.RowKit
set_option maxRecDepth 10000

/-- A clearing has come up to the level a. -/
structure CL (root : Nat) (E0 E : Nat → Nat → DV) (page a : Nat) : Prop where
  same : ∀ m, m ≤ a → E m (qn page m) = E0 m (qn page m)
  ne : NE root E (fun l j => l = a + 1 ∧ j = qn page a)
  un : a ≤ 2 → ∀ i, i < 512 → (E (a + 1) (512 * qn page a + i)).k = 0
  lf : ∀ l j, l ≤ 3 → lfD E l j = if l = 3 ∧ j = page then (if a = 3 then lfD E0 3 page else dN) else lfD E0 l j
section
variable {M M' : Nat → Nat → Nat} {C C' : Nat → Nat} {pool root page a : Nat} {Z : Nat → Bool} {E E0 : Nat → Nat → DV}
theorem CL.start (ne : NE root E (fun _ _ => False)) : CL root E E page 3 := ⟨fun _ _ => rfl, ne.weak (fun _ _ c => c.elim), fun c => by omega, fun l j hl => by
  by_cases c : l = 3 ∧ j = page
  · rw [if_pos c, if_pos rfl, c.1, c.2]
  · rw [if_neg c]⟩
theorem CL.tabl (h : CL root E0 E page a) {m : Nat} (hm : m ≤ a) (h3 : a ≤ 3) : tbl root E m (qn page m / 512) = tbl root E0 m (qn page m / 512) := by
  cases m with
  | zero => rfl
  | succ n => rw [qn_up page (by omega), tbl_succ, tbl_succ, h.same n (by omega)]
/-- What is left when the entry of the level a is None. -/
structure CD (root : Nat) (E0 E : Nat → Nat → DV) (page a : Nat) : Prop where
  same : ∀ m, m < a → E m (qn page m) = E0 m (qn page m)
  ne : NE root E (fun l j => l = a ∧ j = qn page a / 512)
  lf : ∀ l j, l ≤ 3 → lfD E l j = if l = 3 ∧ j = page then dN else lfD E0 l j
  tb : tbl root E a (qn page a / 512) = tbl root E0 a (qn page a / 512)
theorem CD.next (h : CD root E0 E page (a + 1)) (h3 : a + 1 ≤ 3) (hem : ∀ i, i < 512 → (E (a + 1) (512 * (qn page (a + 1) / 512) + i)).k = 0) : CL root E0 E page a := by
  refine ⟨fun m hm => h.same m (by omega), ?_, fun _ i hi => ?_, fun l j hl => ?_⟩
  · have := h.ne
    rw [qn_up page (by omega)] at this
    exact this
  · have := hem i hi
    rw [qn_up page (by omega)] at this
    exact this
  · rw [h.lf l j hl]
    by_cases c : l = 3 ∧ j = page
    · rw [if_pos c, if_pos c, if_neg (by omega)]
    · rw [if_neg c, if_neg c]
theorem CD.stop (h : CD root E0 E page a) (hs : a = 0 ∨ ∃ i, i < 512 ∧ (E a (512 * (qn page a / 512) + i)).k ≠ 0) : NE root E (fun _ _ => False) := by
  intro l j x h1 h2 _ h4
  by_cases c : l = a ∧ j = qn page a / 512
  · obtain ⟨rfl, rfl⟩ := c
    rcases hs with hs | hs
    · omega
    · exact hs
  · exact h.ne l j x h1 h2 c h4
theorem CL.cut (P : CL root E0 E page a) (h : TG M C pool Z root E) (h3 : a ≤ 3) (hp : page < 268435456) (hlv : lvG E0 page = 3) :
    TG (repM M (tbX root E a (qn page a / 512)) (qn page a % 512) (E a (qn page a)) dN) (repC C (E a (qn page a))) pool Z root (hang E a (qn page a) dN (fun _ => dN)) ∧ CD root E0 (hang E a (qn page a) dN (fun _ => dN)) page a ∧ Ot Z M C (repM M (tbX root E a (qn page a / 512)) (qn page a % 512) (E a (qn page a)) dN) (repC C (E a (qn page a))) ∧
    ((E a (qn page a)).k = 1 → (E a (qn page a)).a < 18446744073709551616 ∧ (E a (qn page a)).a / 4096 < pool ∧ C ((E a (qn page a)).a / 4096) = 1) ∧ ∃ x, tbX root E a (qn page a / 512) = x ∧ tbl root E a (qn page a / 512) = some x := by
  have kk : ∀ m, m < a → (E m (qn page m)).k = 1 := fun m hm => by rw [P.same m (by omega)]; exact lvG_on (by omega)
  obtain ⟨x, hx⟩ : ∃ x, tbl root E a (qn page a / 512) = some x := by
    cases a with
    | zero => rw [(qn_zero hp).2]; exact ⟨root, rfl⟩
    | succ n => rw [qn_up page (by omega), tbl_succ, if_pos (kk n (by omega))]; exact ⟨_, rfl⟩
  have ex : tbX root E a (qn page a / 512) = x := by unfold tbX; rw [hx]; rfl
  have mx := h.mine a _ x h3 hx
  rw [ex]
  have same' : ∀ m, m < a → hang E a (qn page a) dN (fun _ => dN) m (qn page m) = E0 m (qn page m) := fun m hm => by
    rw [hang_out _ _ _ _ _ (by omega) (by omega)]; exact P.same m (by omega)
  have tb' : tbl root (hang E a (qn page a) dN (fun _ => dN)) a (qn page a / 512) = tbl root E0 a (qn page a / 512) := by
    cases a with
    | zero => rfl
    | succ n => rw [qn_up page (by omega), tbl_succ, tbl_succ, same' n (by omega)]
  by_cases ha : a = 3
  · subst ha
    have hk := h.last page
    have k3 : (E 3 (qn page 3)).k ≠ 1 := by
      intro c
      have := (h.ok 3 (qn page 3) (by omega)).parts.2.2.2.2.2.2.2.1 c
      omega
    have eM : repM M x (qn page 3 % 512) (E 3 (qn page 3)) dN = updM M x (qn page 3 % 512) (wdD dN) := if_neg k3
    have eC : repC C (E 3 (qn page 3)) = C := if_neg k3
    rw [eM, eC]
    refine ⟨h.leaf (by omega) k3 (by decide) (okD_none (by omega)) (fun c => by cases c) (fun c => by cases c) hx (by unfold updM; rw [if_pos ⟨rfl, rfl⟩]) (fun y i hi hn => by unfold updM; rw [if_neg hn]), ⟨same', ?_, fun l j hl => ?_, tb'⟩, fun z hz => ⟨fun i _ => ?_, rfl⟩, fun c => absurd c k3, x, rfl, hx⟩
    · intro l j y h1 h2 h3 h4
      have e : tbl root (hang E 3 (qn page 3) dN (fun _ => dN)) l j = tbl root E l j := by
        cases l with
        | zero => rfl
        | succ m => rw [tbl_succ, tbl_succ, hang_out _ _ _ _ _ (by omega) (by omega)]
      rw [e] at h4
      obtain ⟨i, hi, hk⟩ := P.ne l j y h1 h2 (by omega) h4
      refine ⟨i, hi, ?_⟩
      rw [hang_out]
      · exact hk
      · rintro ⟨rfl, e⟩; exact h3 ⟨rfl, by omega⟩
      · omega
    · rw [lf_leaf h (by omega) k3 (by decide) l j hl, P.lf l j hl, qn_three]
      by_cases c : l = 3 ∧ j = page
      · rw [if_pos c, if_pos c]
      · rw [if_neg c, if_neg c, if_neg c]
    · unfold updM
      rw [if_neg (fun c => by rw [c.1, mx.2.2] at hz; cases hz)]
  · have ha2 : a ≤ 2 := by omega
    have k1 : (E a (qn page a)).k = 1 := by rw [P.same a (Nat.le_refl _)]; exact lvG_on (by omega)
    obtain ⟨y, hy⟩ : ∃ y, y = (E a (qn page a)).a / 4096 := ⟨_, rfl⟩
    have ty : tbl root E (a + 1) (qn page a) = some y := by rw [tbl_succ, if_pos k1, hy]
    have my := h.mine (a + 1) _ y (by omega) ty
    have xy : x ≠ y := fun c => by
      subst c
      have := (h.one _ _ _ _ _ h3 (by omega) hx ty).1
      omega
    have eM : repM M x (qn page a % 512) (E a (qn page a)) dN = zerM (updM M x (qn page a % 512) (wdD dN)) y := by unfold repM; rw [if_pos k1, hy]
    have eC : repC C (E a (qn page a)) = putC C y 0 := by unfold repC; rw [if_pos k1, hy]
    have un := P.un ha2
    rw [eM, eC]
    refine ⟨h.off ha2 ty (fun i hi => by rw [un i hi]; decide) (by decide) (okD_none h3) (fun c => by cases c) hx (by unfold putC; rw [if_pos rfl]) (fun z hz => by unfold putC; rw [if_neg hz]) (by unfold zerM updM; rw [if_neg xy, if_pos ⟨rfl, rfl⟩]) (fun z i hi hz hn => by unfold zerM updM; rw [if_neg hz, if_neg hn]), ⟨same', ?_, fun l j hl => ?_, tb'⟩, fun z hz => ⟨fun i _ => ?_, ?_⟩, fun _ => ⟨?_, by rw [← hy]; exact my.1, by rw [← hy]; exact my.2.1⟩, x, rfl, hx⟩
    · intro l j z h1 h2 h3' h4
      by_cases c : l = a + 1 ∧ j = qn page a
      · rw [c.1, c.2, tbl_hang_at, if_neg (by decide)] at h4
        cases h4
      · rw [tbl_hang_out (fun _ _ => by decide) (fun i hi => by rw [un i hi]; decide) c] at h4
        obtain ⟨i, hi, hk⟩ := P.ne l j z h1 h2 c h4
        refine ⟨i, hi, ?_⟩
        rw [hang_out]
        · exact hk
        · rintro ⟨rfl, e⟩; exact h3' ⟨rfl, by omega⟩
        · rintro ⟨rfl, e⟩; exact c ⟨rfl, by omega⟩
    · have e1 : lfD (hang E a (qn page a) dN (fun _ => dN)) l j = lfD E l j := by
        unfold lfD
        by_cases c1 : l = a ∧ j = qn page a
        · obtain ⟨rfl, rfl⟩ := c1
          rw [hang_at, if_neg (by decide), if_pos k1]
        · by_cases c2 : l = a + 1 ∧ j / 512 = qn page a
          · obtain ⟨rfl, c2⟩ := c2
            have e : j = 512 * qn page a + j % 512 := by omega
            have u := un (j % 512) (Nat.mod_lt _ (by decide))
            have u2 := (h.ok (a + 1) (512 * qn page a + j % 512) (by omega)).none u
            rw [e, hang_in _ _ _ _ _ (Nat.mod_lt _ (by decide)), u2]
          · rw [hang_out _ _ _ _ _ c1 c2]
      rw [e1, P.lf l j hl, if_neg ha]
    · unfold zerM updM
      rw [if_neg (fun c => by rw [c, my.2.2] at hz; cases hz), if_neg (fun c => by rw [c.1, mx.2.2] at hz; cases hz)]
    · unfold putC
      rw [if_neg (fun c => by rw [c, my.2.2] at hz; cases hz)]
    · have := (h.ok a (qn page a) h3).parts.2.2.2.2.2.2.1
      omega
end
end Go.Proofs.YtcankhnnikhblaaGreatDoor

/- stage2: clear. -/
namespace Go.Proofs.YtcankhnnikhblaaGreatDoor
open Go.RowKit
set_option maxRecDepth 10000

/-- At the label: the level a is next. -/
structure JC (W : World) (X : Nat → Prop) (w wr : World) (bt p pm N pool o : Nat) (M0 : Nat → Nat → Nat) (C0 : Nat → Nat) (Z : Nat → Bool) (root : Nat) (E0 : Nat → Nat → DV) (page b a : Nat) : Prop where
  ex : ∃ M C E, TS W X wr bt p pm N pool o M C Z root E ∧ CL root E0 E page a ∧ Ot Z M0 C0 M C
  wl : WL wr b (stps root E0 page)
  fr : Fr (Out W X) w wr
def clearJ (W : World) (X : Nat → Prop) (w : World) (bt p pm N pool o : Nat) (M0 : Nat → Nat → Nat) (C0 : Nat → Nat) (Z : Nat → Bool) (root : Nat) (E0 : Nat → Nat → DV) (page b : Nat) : Act → World → Prop := fun a' w' => ∃ (a : Nat) (u2 u3 u5 u6 u7 u8 u9 u10 u11 u12 u13 u14 u15 u16 u17 u18 u19 u20 u21 u22 u23 u24 u25 u26 u27 u28 u29 u30 u31 u32 u33 u34 u35 u36 u37 u38 u39 u40 u41 u42 u43 u44 u45 : Value),
  a' = { tmps := #[.pointer (some ⟨bt, 0, none⟩), .slice (some ⟨b, 0, none⟩) 4 4, u2, u3, .int .i64 (a : Int), u5, u6, u7, u8, u9, u10, u11, u12, u13, u14, u15, u16, u17, u18, u19, u20, u21, u22, u23, u24, u25, u26, u27, u28, u29, u30, u31, u32, u33, u34, u35, u36, u37, u38, u39, u40, u41, u42, u43, u44, u45], defers := [] } ∧ a ≤ 3 ∧ JC W X w w' bt p pm N pool (o + (3 - a)) M0 C0 Z root E0 page b a
section
variable {W w w' : World} {X Y : Nat → Prop} {bt p pm N pool o : Nat} {M : Nat → Nat → Nat} {C : Nat → Nat} {Z : Nat → Bool} {root : Nat} {E : Nat → Nat → DV}
set_option maxHeartbeats 8000000 in
theorem clear_any (h : TS W X w bt p pm N pool o M C Z root E) (ne : NE root E (fun _ _ => False)) (page b : Nat) (hp : page < 268435456) (ho : o < 4000000000000000000) (hlv : lvG E page = 3) (hL : WL w b (stps root E page)) (hb : X b) :
    Calls Tryz.prog 69 #[.pointer (some ⟨bt, 0, none⟩), .slice (some ⟨b, 0, none⟩) 4 4] w fun e w' => e = .returned (.tuple #[]) ∧ (∃ C' E', AC W X w w' bt p pm N pool (o + 4) M C Z root C' E' ∧ ∀ l j, l ≤ 3 → lfD E' l j = if l = 3 ∧ j = page then dN else lfD E l j) ∧ WL w' b (stps root E page) := by
  have hn := h.fw.nums
  have J0 : JC W X w w bt p pm N pool (o + (3 - 3)) M C Z root E page b 3 := ⟨⟨M, C, E, h, CL.start ne, Ot.refl _ _ _⟩, hL, Fr.refl _ _⟩
  have HJ : Hid (JC W X w w bt p pm N pool (o + (3 - 3)) M C Z root E page b 3) := J0
  have HH : Hid (pool ≤ 1048576 ∧ pool < N ∧ page < 268435456 ∧ o < 4000000000000000000 ∧ lvG E page = 3 ∧ X b) := ⟨by omega, by omega, hp, ho, hlv, hb⟩
  clear h ne hp ho hL hb hn J0 hlv
  go_enter Tryz.func69, Tryz.ntmps69
  go_wp2_with fail
  refine scope_again 0 (clearJ W X w bt p pm N pool o M C Z root E page b) (fun a' _ => (intOf (a'.tmps.getD 4 undef)).toNat) rfl (fun pass => ?_) ?_
  · have PASS : Aside (∀ a v, clearJ W X w bt p pm N pool o M C Z root E page b a v → _) := pass
    clear pass
    go_wp2_with fail
    go_step3
    rename_i hK
    exact hK _ _ (PASS.out _ _ ⟨3, _, _, _, _, _, _, _, _, _, _, _, _, _, _, _, _, _, _, _, _, _, _, _, _, _, _, _, _, _, _, _, _, _, _, _, _, _, _, _, _, _, _, _, rfl, by omega, HJ.out⟩)
  · rintro a' v ⟨a, u2, u3, u5, u6, u7, u8, u9, u10, u11, u12, u13, u14, u15, u16, u17, u18, u19, u20, u21, u22, u23, u24, u25, u26, u27, u28, u29, u30, u31, u32, u33, u34, u35, u36, u37, u38, u39, u40, u41, u42, u43, u44, u45, rfl, ha, J⟩
    obtain ⟨M1, C1, E1, T1, P1, O1⟩ := J.ex
    obtain ⟨q1, q2, q3, q4, q5, q6⟩ := HH.out
    obtain ⟨g1, g2, g3, g4, x, ex, hx⟩ := P1.cut T1.tg ha q3 q5
    have es : E1 a (qn page a) = E a (qn page a) := P1.same a (Nat.le_refl _)
    have et : tbX root E a (qn page a / 512) = x := by rw [← ex]; unfold tbX; rw [P1.tabl (Nat.le_refl _) ha]
    have st : stp root E page a = ⟨a, x * 4096 + 8 * (qn page a % 512), wdD (E1 a (qn page a)), E1 a (qn page a)⟩ := by unfold stp; rw [et, es]
    have hs : (stps root E page)[a]? = some (stp root E page a) := stps_get (by omega)
    rw [st] at hs
    have mx := T1.tg.mine a _ x ha hx
    have KR := replace_any T1.ft x (qn page a % 512) ⟨a, x * 4096 + 8 * (qn page a % 512), wdD (E1 a (qn page a)), E1 a (qn page a)⟩ dN rfl g4 (by omega) (Nat.mod_lt _ (by decide)) (okD_none ha) (by omega)
    rw [ex] at g1 g3
    obtain ⟨M2, hM2⟩ : ∃ M2, M2 = repM M1 x (qn page a % 512) (E1 a (qn page a)) dN := ⟨_, rfl⟩
    obtain ⟨C2, hC2⟩ : ∃ C2, C2 = repC C1 (E1 a (qn page a)) := ⟨_, rfl⟩
    obtain ⟨E2, hE2⟩ : ∃ E2, E2 = hang E1 a (qn page a) dN (fun _ => dN) := ⟨_, rfl⟩
    rw [← hM2, ← hC2] at g1 g3
    rw [← hE2] at g1 g2
    have hx2 : tbl root E2 a (qn page a / 512) = some x := by rw [g2.tb, ← P1.tabl (Nat.le_refl _) ha]; exact hx
    have KR2 : Aside (Calls Tryz.prog 68 #[.pointer (some ⟨bt, 0, none⟩), svV ⟨a, x * 4096 + 8 * (qn page a % 512), wdD (E1 a (qn page a)), E1 a (qn page a)⟩, dvV dN] v fun e w' => e = .returned (.tuple #[]) ∧ Hid (TS W X w' bt p pm N pool (o + (3 - a) + 1) M2 C2 Z root E2 ∧ CD root E E2 page a ∧ Ot Z M C M2 C2 ∧ WL w' b (stps root E page) ∧ Fr (Out W X) w w')) := KR.mono fun e w' ⟨e1, e2, e3⟩ => ⟨e1, by
      rw [show (⟨a, x * 4096 + 8 * (qn page a % 512), wdD (E1 a (qn page a)), E1 a (qn page a)⟩ : SV).d = E1 a (qn page a) from rfl, ← hM2, ← hC2] at e2
      exact ⟨e2.ts g1, g2, O1.trans g3, J.wl.fr e3 (fun c => c.2 q6), J.fr.trans e3⟩⟩
    have cc := fun j' y (hy : (encS ⟨a, x * 4096 + 8 * (qn page a % 512), wdD (E1 a (qn page a)), E1 a (qn page a)⟩)[j']? = some y) => J.wl.cell hs hy
    have HS : Hid ((stps root E page)[a]? = some ⟨a, x * 4096 + 8 * (qn page a % 512), wdD (E1 a (qn page a)), E1 a (qn page a)⟩) := hs
    have HX : Hid (tbl root E2 a (qn page a / 512) = some x ∧ x < pool ∧ (a = 0 → x = root) ∧ (a ≠ 0 → x ≠ root)) := ⟨hx2, mx.1, fun c => by
      subst c
      rw [(qn_zero q3).2] at hx
      exact (Option.some.inj hx).symm, fun c e => by
      subst e
      exact c (T1.tg.one a _ 0 0 x ha (by omega) hx rfl).1⟩
    generalize wdD (E1 a (qn page a)) = su at *
    generalize hsd : E1 a (qn page a) = sd at *
    obtain ⟨aa, haa⟩ : ∃ aa, aa = x * 4096 + 8 * (qn page a % 512) := ⟨_, rfl⟩
    obtain ⟨rr, hrr⟩ : ∃ rr, rr = 8 * (qn page a % 512) := ⟨_, rfl⟩
    obtain ⟨xa, hxa⟩ : ∃ xa, xa = x * 4096 := ⟨_, rfl⟩
    have m1 : (aa : Int).tmod 4096 = (rr : Int) := by
      rw [Int.tmod_eq_emod_of_nonneg (by omega)]
      have := Nat.mod_lt (qn page a) (show 0 < 512 by decide)
      omega
    have m2 : (aa : Int) % 4096 = (rr : Int) := by
      have := Nat.mod_lt (qn page a) (show 0 < 512 by decide)
      omega
    have m3 : (aa : Int) - (rr : Int) = (xa : Int) := by omega
    have m4 : (xa : Int) < 4294967296 := by omega
    have m5 : (aa : Int) < 4294967296 := by
      have := Nat.mod_lt (qn page a) (show 0 < 512 by decide)
      omega
    have HXA : Hid (xa = x * 4096) := hxa
    rw [← haa] at KR2 cc HS
    have y1 : (a : Int) ≤ 3 := by omega
    clear hM2 hC2 hE2 KR P1 O1 J T1 g1 g2 g3 g4 ex hx es et st hs mx q1 q2 q3 q4 q5 q6 hx2 haa hrr hxa hsd
    obtain ⟨dk, da, dr, dq, dx, df⟩ := sd
    have x0 := cc 0 _ rfl
    have x1 := cc 1 _ rfl
    have x2 := cc 2 _ rfl
    have x3 := cc 3 _ rfl
    have x4 := cc 4 _ rfl
    have x5 := cc 5 _ rfl
    have x6 := cc 6 _ rfl
    have x7 := cc 7 _ rfl
    have x8 := cc 8 _ rfl
    simp only [Nat.add_zero] at x0
    have kr := KR2.out
    simp only [svV, dvV, dN] at kr
    rw [show ((0 : Nat) : Int) = 0 from rfl] at kr
    clear cc KR2
    go_wp2_with fail
    with_reducible refine kr.mono ?_
    rintro _ w1 ⟨rfl, F2⟩
    have L1 := F2.out.2.2.2.1
    have z0 := L1.cell HS.out (j := 0) rfl
    have z1 : ∀ m, (w1.drewN m).cell? ⟨b, a * 9 + 1, none⟩ = some (.int .u64 (aa : Int)) := fun m => L1.cell HS.out (j := 1) rfl
    simp only [Nat.add_zero] at z0
    have c1 := F2.out.1.tx.c1
    clear kr L1 x0 x1 x2 x3 x4 x5 x6 x7 x8
    go_wp2_with fail
    go_quiet (fail)
    generalize hw2 : w1.drewN nq = w2 at *
    have k2 : Kp w1 w2 := by rw [← hw2]; exact (Kp.refl w1).drewN nq
    have F3 : Hid (TS W X w2 bt p pm N pool (o + (3 - a) + 1) M2 C2 Z root E2 ∧ CD root E E2 page a ∧ Ot Z M C M2 C2 ∧ WL w2 b (stps root E page) ∧ Fr (Out W X) w w2) := by
      obtain ⟨f1, f2, f3, f4, f5⟩ := F2.out
      exact ⟨f1.kps k2, f2, f3, f4.kp k2, f5.trans (k2.fr _)⟩
    have z0 := F3.out.2.2.2.1.cell HS.out (j := 0) rfl
    simp only [Nat.add_zero] at z0
    have c1 := F3.out.1.tx.c1
    clear F2 z1 hw2 k2 m1 m2 m3 m4 m5
    obtain ⟨ra, hra⟩ : ∃ ra, ra = root * 4096 := ⟨_, rfl⟩
    rw [← hra] at c1
    by_cases a0 : a = 0
    · have ne1 : ((xa : Int) != (ra : Int)) = false := by
        have := HX.out.2.2.1 a0
        have := HXA.out
        simp; omega
      have ne2 : decide ((xa : Int) = (ra : Int)) = true := by
        have := HX.out.2.2.1 a0
        have := HXA.out
        exact decide_eq_true (by omega)
      have FE : Hid (∃ C' E', AC W X w w2 bt p pm N pool (o + 4) M C Z root C' E' ∧ ∀ l j, l ≤ 3 → lfD E' l j = if l = 3 ∧ j = page then dN else lfD E l j) := by
        obtain ⟨f1, f2, f3, f4, f5⟩ := F3.out
        exact ⟨C2, E2, ⟨⟨M2, f1.le (by omega), f3⟩, f2.stop (.inl a0), f5⟩, f2.lf⟩
      have FL : Hid (WL w2 b (stps root E page)) := F3.out.2.2.2.1
      clear F3 HX HXA hra a0
      go_wp2_with fail
      (try simp only [Exit.jump])
      go_end0
      exact ⟨rfl, FE.out, FL.out⟩
    · have ne0 : ¬ xa = ra := by
        have := HX.out.2.2.2 a0
        have := HXA.out
        omega
      have ne1 : ((xa : Int) != (ra : Int)) = true := by simp; omega
      have ne2 : ((xa : Int) == (ra : Int)) = false := by rw [beq_eq_false_iff_ne]; omega
      have ne3 : ¬ (xa : Int) = (ra : Int) := by omega
      clear hra
      by_cases em : ∀ i, i < 512 → (E2 a (512 * (qn page a / 512) + i)).k = 0
      · have ke := isEmpty_any F3.out.1 ha HX.out.1 true ⟨fun _ => em, fun _ => rfl⟩
        have HE : Hid (∀ i, i < 512 → (E2 a (512 * (qn page a / 512) + i)).k = 0) := em
        rw [← HXA.out] at ke
        clear em
        go_wp2_with fail
        with_reducible refine ke.mono ?_
        rintro _ w3 ⟨rfl, k3⟩
        have FJ : Hid (JC W X w w3 bt p pm N pool (o + (3 - (a - 1))) M C Z root E page b (a - 1)) := by
          obtain ⟨f1, f2, f3, f4, f5⟩ := F3.out
          obtain ⟨n, rfl⟩ : ∃ n, a = n + 1 := ⟨a - 1, by omega⟩
          refine ⟨⟨M2, C2, E2, (f1.kps k3).le (by omega), f2.next ha HE.out, f3⟩, f4.kp k3, f5.trans (k3.fr _)⟩
        clear F3 HE ke k3
        go_wp2_with fail
        rw [show ((a : Int) - 1) = ((a - 1 : Nat) : Int) by omega]
        go_step3
        refine ⟨rfl, ⟨a - 1, _, _, _, _, _, _, _, _, _, _, _, _, _, _, _, _, _, _, _, _, _, _, _, _, _, _, _, _, _, _, _, _, _, _, _, _, _, _, _, _, _, _, _, rfl, by omega, ?_⟩, ?_⟩
        · exact FJ.out
        · simp [intOf]
          omega
      · have ke := isEmpty_any F3.out.1 ha HX.out.1 false ⟨(fun c => by cases c), fun c => absurd c em⟩
        have FE : ∀ v, Kp w2 v → Hid (∃ C' E', AC W X w v bt p pm N pool (o + 4) M C Z root C' E' ∧ ∀ l j, l ≤ 3 → lfD E' l j = if l = 3 ∧ j = page then dN else lfD E l j) := fun v kv => by
          obtain ⟨f1, f2, f3, f4, f5⟩ := F3.out
          have ex : ∃ i, i < 512 ∧ (E2 a (512 * (qn page a / 512) + i)).k ≠ 0 := by
            refine Classical.byContradiction fun c => em fun i hi => ?_
            refine Classical.byContradiction fun c2 => c ⟨i, hi, c2⟩
          exact ⟨C2, E2, ⟨⟨M2, (f1.kps kv).le (by omega), f3⟩, f2.stop (.inr ex), f5.trans (kv.fr _)⟩, f2.lf⟩
        have AE : Aside (∀ v, Kp w2 v → Hid (∃ C' E', AC W X w v bt p pm N pool (o + 4) M C Z root C' E' ∧ ∀ l j, l ≤ 3 → lfD E' l j = if l = 3 ∧ j = page then dN else lfD E l j)) := FE
        have FL : Hid (WL w2 b (stps root E page)) := F3.out.2.2.2.1
        rw [← HXA.out] at ke
        clear em FE F3
        go_wp2_with fail
        with_reducible refine ke.mono ?_
        rintro _ w3 ⟨rfl, k3⟩
        have FE := AE.out w3 k3
        have FL3 : Hid (WL w3 b (stps root E page)) := FL.out.kp k3
        clear ke k3 AE FL
        go_wp2_with fail
        (try simp only [Exit.jump])
        go_end0
        exact ⟨rfl, FE.out, FL3.out⟩
end
end Go.Proofs.YtcankhnnikhblaaGreatDoor

/- stage2: Unmap of a Page; what is not mapped. -/
namespace Go.Proofs.YtcankhnnikhblaaGreatDoor
open Go.RowKit
set_option maxRecDepth 10000

theorem field_d (s : SV) (w : World) : (Instr.field 64 (svV s) 3).run Tryz.prog w = .ok (dvV s.d) w := by unfold svV dvV; kernel_rfl
theorem field_k (d : DV) (w : World) : (Instr.field 62 (dvV d) 0).run Tryz.prog w = .ok (.int .i64 d.k) w := by unfold dvV; kernel_rfl
theorem field_a (d : DV) (w : World) : (Instr.field 62 (dvV d) 1).run Tryz.prog w = .ok (.int .u64 (d.a : Int)) w := by unfold dvV; kernel_rfl
section
variable {W w w' : World} {X Y : Nat → Prop} {bt p pm N pool o : Nat} {M : Nat → Nat → Nat} {C : Nat → Nat} {Z : Nat → Bool} {root : Nat} {E : Nat → Nat → DV}
set_option maxHeartbeats 4000000 in
theorem single_page (h : TS W X w bt p pm N pool o M C Z root E) (page : Nat) (hp : page < 268435456) (ho : o < 4000000000000000000) (hk : (enG E page).k = 3) (hl : lvG E page = 3) :
    Calls Tryz.prog 65 #[.pointer (some ⟨bt, 0, none⟩), .int .u64 (page : Int)] w fun e w' => e = .returned (.tuple #[.slice (some ⟨w.heap.size, 0, none⟩) 4 4, .int .i64 0]) ∧ WL w' w.heap.size (stps root E page) ∧ TS W (fun i => X i ∨ i = w.heap.size) w' bt p pm N pool (o + 4) M C Z root E ∧ Fr (Out W X) w w' := by
  have k1 := way_any h page hp ho
  rw [decide_eq_true (by rw [hk]; decide), hl] at k1
  have hs : (stps root E page)[3]? = some (stp root E page 3) := stps_get (by omega)
  have hd : (stp root E page 3).d.k = 3 := by have := hk; unfold enG at this; rw [hl] at this; exact this
  have f1 := field_d (stp root E page 3)
  have f2 := field_k (stp root E page 3).d
  rw [hd] at f2
  have HS : Hid ((stps root E page)[3]? = some (stp root E page 3)) := hs
  have K1 : Aside (Calls Tryz.prog 57 #[.pointer (some ⟨bt, 0, none⟩), .int .u64 (page : Int)] w fun e w' => e = .returned (.tuple #[.slice (some ⟨w.heap.size, 0, none⟩) 4 4, .bool true]) ∧ Hid (WL w' w.heap.size (stps root E page) ∧ TS W (fun i => X i ∨ i = w.heap.size) w' bt p pm N pool (o + 4) M C Z root E ∧ Fr (Out W X) w w')) := k1
  clear h hp ho hk hl k1 hs hd
  generalize stp root E page 3 = st at *
  generalize stps root E page = L at *
  generalize dvV st.d = dd at *
  go_enter Tryz.func65, Tryz.ntmps65
  go_wp2_with fail
  with_reducible refine K1.out.mono ?_
  rintro e w1 ⟨rfl, H1⟩
  have k2 := last_any H1.out.1 (by omega) HS.out
  clear K1
  go_wp2_with fail
  with_reducible refine k2.mono ?_
  rintro e w2 ⟨rfl, k3⟩
  have H2 : Hid (WL w2 w.heap.size L ∧ TS W (fun i => X i ∨ i = w.heap.size) w2 bt p pm N pool (o + 4) M C Z root E ∧ Fr (Out W X) w w2) := ⟨H1.out.1.kp k3, H1.out.2.1.kps k3, H1.out.2.2.trans (k3.fr _)⟩
  clear k2 k3 H1
  go_wp2
  go_ret2
  exact ⟨rfl, H2.out⟩
set_option maxHeartbeats 4000000 in
theorem single_none (h : TS W X w bt p pm N pool o M C Z root E) (page : Nat) (hp : page < 268435456) (ho : o < 4000000000000000000) (hk : (enG E page).k = 0) :
    Calls Tryz.prog 65 #[.pointer (some ⟨bt, 0, none⟩), .int .u64 (page : Int)] w fun e w' => e = .returned (.tuple #[.slice none 0 0, .int .i64 23]) ∧ TS W X w' bt p pm N pool (o + 4) M C Z root E ∧ Fr (Out W X) w w' := by
  have k1 := way_any h page hp ho
  rw [decide_eq_false (by simpa using hk)] at k1
  have HX : Hid (X bt) := h.xb
  clear h hp ho hk
  generalize stps root E page = L at *
  generalize lvG E page = l at *
  go_enter Tryz.func65, Tryz.ntmps65
  go_wp2_with fail
  with_reducible refine k1.mono ?_
  rintro e w1 ⟨rfl, _, t1, r1⟩
  have H1 : Hid (TS W X w1 bt p pm N pool (o + 4) M C Z root E ∧ Fr (Out W X) w w1) := ⟨t1.less (fun _ => .inl) HX.out, r1⟩
  clear k1 t1 r1
  go_wp2
  go_ret2
  exact ⟨rfl, H1.out⟩
set_option maxHeartbeats 4000000 in
theorem unmap_page (h : TS W X w bt p pm N pool o M C Z root E) (ne : NE root E (fun _ _ => False)) (page : Nat) (hp : page < 268435456) (ho : o < 3000000000000000000) (hk : (enG E page).k = 3) (hl : lvG E page = 3) :
    Calls Tryz.prog 28 #[.pointer (some ⟨bt, 0, none⟩), .int .u64 (page : Int)] w fun e w' => e = .returned (.tuple #[.int .i64 (((enG E page).a / 4096 : Nat) : Int), .int .i64 0]) ∧ ∃ C' E', AC W X w w' bt p pm N pool (o + 8) M C Z root C' E' ∧ ∀ l j, l ≤ 3 → lfD E' l j = if l = 3 ∧ j = page then dN else lfD E l j := by
  have k1 := single_page h page hp (by omega) hk hl
  have hs : (stps root E page)[3]? = some (stp root E page 3) := stps_get (by omega)
  have hd : (stp root E page 3).d.a = (enG E page).a := by unfold enG; rw [hl]; rfl
  have ha : (enG E page).a < 18446744073709551616 := by
    have := (h.tg.ok (lvG E page) (qn page (lvG E page)) (lvG_le _ _)).parts.2.2.2.2.2.2.1
    unfold enG; omega
  have f1 := field_d (stp root E page 3)
  have f2 := field_a (stp root E page 3).d
  rw [hd] at f2
  have kf := fun v => frameOf_any (enG E page).a v ha
  have KC : Aside (∀ v, WL v w.heap.size (stps root E page) → TS W (fun i => X i ∨ i = w.heap.size) v bt p pm N pool (o + 4) M C Z root E → Fr (Out W X) w v → Calls Tryz.prog 69 #[.pointer (some ⟨bt, 0, none⟩), .slice (some ⟨w.heap.size, 0, none⟩) 4 4] v fun e w' => e = .returned (.tuple #[]) ∧ Hid ((∃ C' E', AC W X w w' bt p pm N pool (o + 8) M C Z root C' E' ∧ ∀ l j, l ≤ 3 → lfD E' l j = if l = 3 ∧ j = page then dN else lfD E l j) ∧ WL w' w.heap.size (stps root E page))) := fun v a1 a2 a3 => (clear_any a2 ne page w.heap.size hp (by omega) hl a1 (.inr rfl)).mono fun e w' ⟨e1, ⟨C', E', e2, e3⟩, e4⟩ => ⟨e1, ⟨C', E', ⟨by obtain ⟨M', q1, q2⟩ := e2.ts; exact ⟨M', q1.less (fun _ => .inl) h.xb, q2⟩, e2.ne, a3.trans (e2.fr.less fun _ => .inl)⟩, e3⟩, e4⟩
  have HS : Hid ((stps root E page)[3]? = some (stp root E page 3)) := hs
  clear h ne hp ho hk hl hs hd ha
  generalize stp root E page 3 = st at *
  generalize stps root E page = L at *
  generalize dvV st.d = dd at *
  generalize (enG E page).a / 4096 = fr at *
  generalize (enG E page).a = fa at *
  go_enter Tryz.func28, Tryz.ntmps28
  go_wp2_with fail
  with_reducible refine k1.mono ?_
  rintro e w1 ⟨rfl, l1, t1, r1⟩
  have kc := KC.out w1 l1 t1 r1
  clear k1 KC l1 t1 r1
  go_wp2_with fail
  with_reducible refine kc.mono ?_
  rintro e w2 ⟨rfl, H2⟩
  have k2 := last_any H2.out.2 (by omega) HS.out
  clear kc
  go_wp2_with fail
  with_reducible refine k2.mono ?_
  rintro e w3 ⟨rfl, k3⟩
  have H3 : Hid (∃ C' E', AC W X w w3 bt p pm N pool (o + 8) M C Z root C' E' ∧ ∀ l j, l ≤ 3 → lfD E' l j = if l = 3 ∧ j = page then dN else lfD E l j) := by
    obtain ⟨C', E', e2, e3⟩ := H2.out.1
    obtain ⟨M', q1, q2⟩ := e2.ts
    exact ⟨C', E', ⟨⟨M', q1.kps k3, q2⟩, e2.ne, e2.fr.trans (k3.fr _)⟩, e3⟩
  clear k2 k3 H2
  go_wp2_with (go_at_call 70; with_reducible refine (kf _).mono ?_; rintro _ w' ⟨rfl, rfl⟩)
  go_ret2
  exact ⟨rfl, H3.out⟩
end
end Go.Proofs.YtcankhnnikhblaaGreatDoor
