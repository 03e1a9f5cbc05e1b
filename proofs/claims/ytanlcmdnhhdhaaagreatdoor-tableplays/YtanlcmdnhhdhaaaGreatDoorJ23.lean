/- Joined: R25, R16. -/
import Derived.Test.YtanlcmdnhhdhaaaGreatDoorJ22
/- stage2: clear, apart from any program: a leaf goes, and with it what tables become empty. -/
namespace Go.Proofs.YtanlcmdnhhdhaaaGreatDoor
open Go.RowKit
set_option maxRecDepth 10000

/-- A clearing has come up to the level a. -/
structure CL (root : Nat) (E0 E : Nat → Nat → DV) (page a : Nat) : Prop where
  same : ∀ m, m ≤ a → E m (qn page m) = E0 m (qn page m)
  ne : NE root E (fun l j => l = a + 1 ∧ j = qn page a)
  un : a ≤ 2 → ∀ i, i < 512 → (E (a + 1) (512 * qn page a + i)).k = 0
  lf : ∀ l j, l ≤ 3 → lfD E l j = if l = 3 ∧ j = page then (if a = 3 then lfD E0 3 page else dN) else lfD E0 l j
section
variable {M M' : Nat → Nat → Nat} {C C' : Nat → Nat} {pool root page a : Nat} {Z : Nat → Bool} {E E0 : Nat → Nat → DV}
theorem CL.start (ne : NE root E (fun _ _ => False)) : CL root E E page 3 := ⟨fun _ _ => rfl, ne.weak (fun _ _ c => c.elim), fun c => by omega, fun l j hl => by
  by_cases c : l = 3 ∧ j = page
  · rw [if_pos c, if_pos rfl, c.1, c.2]
  · rw [if_neg c]⟩
theorem CL.tabl (h : CL root E0 E page a) {m : Nat} (hm : m ≤ a) (h3 : a ≤ 3) : tbl root E m (qn page m / 512) = tbl root E0 m (qn page m / 512) := by
  cases m with
  | zero => rfl
  | succ n => rw [qn_up page (by omega), tbl_succ, tbl_succ, h.same n (by omega)]
/-- What is left when the entry of the level a is None. -/
structure CD (root : Nat) (E0 E : Nat → Nat → DV) (page a : Nat) : Prop where
  same : ∀ m, m < a → E m (qn page m) = E0 m (qn page m)
  ne : NE root E (fun l j => l = a ∧ j = qn page a / 512)
  lf : ∀ l j, l ≤ 3 → lfD E l j = if l = 3 ∧ j = page then dN else lfD E0 l j
  tb : tbl root E a (qn page a / 512) = tbl root E0 a (qn page a / 512)
theorem CD.next (h : CD root E0 E page (a + 1)) (h3 : a + 1 ≤ 3) (hem : ∀ i, i < 512 → (E (a + 1) (512 * (qn page (a + 1) / 512) + i)).k = 0) : CL root E0 E page a := by
  refine ⟨fun m hm => h.same m (by omega), ?_, fun _ i hi => ?_, fun l j hl => ?_⟩
  · have := h.ne
    rw [qn_up page (by omega)] at this
    exact this
  · have := hem i hi
    rw [qn_up page (by omega)] at this
    exact this
  · rw [h.lf l j hl]
    by_cases c : l = 3 ∧ j = page
    · rw [if_pos c, if_pos c, if_neg (by omega)]
    · rw [if_neg c, if_neg c]
theorem CD.stop (h : CD root E0 E page a) (hs : a = 0 ∨ ∃ i, i < 512 ∧ (E a (512 * (qn page a / 512) + i)).k ≠ 0) : NE root E (fun _ _ => False) := by
  intro l j x h1 h2 _ h4
  by_cases c : l = a ∧ j = qn page a / 512
  · obtain ⟨rfl, rfl⟩ := c
    rcases hs with hs | hs
    · omega
    · exact hs
  · exact h.ne l j x h1 h2 c h4
theorem CL.cut (P : CL root E0 E page a) (h : TG M C pool Z root E) (h3 : a ≤ 3) (hp : page < 268435456) (hlv : lvG E0 page = 3) :
    TG (repM M (tbX root E a (qn page a / 512)) (qn page a % 512) (E a (qn page a)) dN) (repC C (E a (qn page a))) pool Z root (hang E a (qn page a) dN (fun _ => dN)) ∧ CD root E0 (hang E a (qn page a) dN (fun _ => dN)) page a ∧ Ot Z M C (repM M (tbX root E a (qn page a / 512)) (qn page a % 512) (E a (qn page a)) dN) (repC C (E a (qn page a))) ∧
    ((E a (qn page a)).k = 1 → (E a (qn page a)).a < 18446744073709551616 ∧ (E a (qn page a)).a / 4096 < pool ∧ C ((E a (qn page a)).a / 4096) = 1) ∧ ∃ x, tbX root E a (qn page a / 512) = x ∧ tbl root E a (qn page a / 512) = some x := by
  have kk : ∀ m, m < a → (E m (qn page m)).k = 1 := fun m hm => by rw [P.same m (by omega)]; exact lvG_on (by omega)
  obtain ⟨x, hx⟩ : ∃ x, tbl root E a (qn page a / 512) = some x := by
    cases a with
    | zero => rw [(qn_zero hp).2]; exact ⟨root, rfl⟩
    | succ n => rw [qn_up page (by omega), tbl_succ, if_pos (kk n (by omega))]; exact ⟨_, rfl⟩
  have ex : tbX root E a (qn page a / 512) = x := by unfold tbX; rw [hx]; rfl
  have mx := h.mine a _ x h3 hx
  rw [ex]
  have same' : ∀ m, m < a → hang E a (qn page a) dN (fun _ => dN) m (qn page m) = E0 m (qn page m) := fun m hm => by
    rw [hang_out _ _ _ _ _ (by omega) (by omega)]; exact P.same m (by omega)
  have tb' : tbl root (hang E a (qn page a) dN (fun _ => dN)) a (qn page a / 512) = tbl root E0 a (qn page a / 512) := by
    cases a with
    | zero => rfl
    | succ n => rw [qn_up page (by omega), tbl_succ, tbl_succ, same' n (by omega)]
  by_cases ha : a = 3
  · subst ha
    have hk := h.last page
    have k3 : (E 3 (qn page 3)).k ≠ 1 := by
      intro c
      have := (h.ok 3 (qn page 3) (by omega)).parts.2.2.2.2.2.2.2.1 c
      omega
    have eM : repM M x (qn page 3 % 512) (E 3 (qn page 3)) dN = updM M x (qn page 3 % 512) (wdD dN) := if_neg k3
    have eC : repC C (E 3 (qn page 3)) = C := if_neg k3
    rw [eM, eC]
    refine ⟨h.leaf (by omega) k3 (by decide) (okD_none (by omega)) (fun c => by cases c) (fun c => by cases c) hx (by unfold updM; rw [if_pos ⟨rfl, rfl⟩]) (fun y i hi hn => by unfold updM; rw [if_neg hn]), ⟨same', ?_, fun l j hl => ?_, tb'⟩, fun z hz => ⟨fun i _ => ?_, rfl⟩, fun c => absurd c k3, x, rfl, hx⟩
    · intro l j y h1 h2 h3 h4
      have e : tbl root (hang E 3 (qn page 3) dN (fun _ => dN)) l j = tbl root E l j := by
        cases l with
        | zero => rfl
        | succ m => rw [tbl_succ, tbl_succ, hang_out _ _ _ _ _ (by omega) (by omega)]
      rw [e] at h4
      obtain ⟨i, hi, hk⟩ := P.ne l j y h1 h2 (by omega) h4
      refine ⟨i, hi, ?_⟩
      rw [hang_out]
      · exact hk
      · rintro ⟨rfl, e⟩; exact h3 ⟨rfl, by omega⟩
      · omega
    · rw [lf_leaf h (by omega) k3 (by decide) l j hl, P.lf l j hl, qn_three]
      by_cases c : l = 3 ∧ j = page
      · rw [if_pos c, if_pos c]
      · rw [if_neg c, if_neg c, if_neg c]
    · unfold updM
      rw [if_neg (fun c => by rw [c.1, mx.2.2] at hz; cases hz)]
  · have ha2 : a ≤ 2 := by omega
    have k1 : (E a (qn page a)).k = 1 := by rw [P.same a (Nat.le_refl _)]; exact lvG_on (by omega)
    obtain ⟨y, hy⟩ : ∃ y, y = (E a (qn page a)).a / 4096 := ⟨_, rfl⟩
    have ty : tbl root E (a + 1) (qn page a) = some y := by rw [tbl_succ, if_pos k1, hy]
    have my := h.mine (a + 1) _ y (by omega) ty
    have xy : x ≠ y := fun c => by
      subst c
      have := (h.one _ _ _ _ _ h3 (by omega) hx ty).1
      omega
    have eM : repM M x (qn page a % 512) (E a (qn page a)) dN = zerM (updM M x (qn page a % 512) (wdD dN)) y := by unfold repM; rw [if_pos k1, hy]
    have eC : repC C (E a (qn page a)) = putC C y 0 := by unfold repC; rw [if_pos k1, hy]
    have un := P.un ha2
    rw [eM, eC]
    refine ⟨h.off ha2 ty (fun i hi => by rw [un i hi]; decide) (by decide) (okD_none h3) (fun c => by cases c) hx (by unfold putC; rw [if_pos rfl]) (fun z hz => by unfold putC; rw [if_neg hz]) (by unfold zerM updM; rw [if_neg xy, if_pos ⟨rfl, rfl⟩]) (fun z i hi hz hn => by unfold zerM updM; rw [if_neg hz, if_neg hn]), ⟨same', ?_, fun l j hl => ?_, tb'⟩, fun z hz => ⟨fun i _ => ?_, ?_⟩, fun _ => ⟨?_, by rw [← hy]; exact my.1, by rw [← hy]; exact my.2.1⟩, x, rfl, hx⟩
    · intro l j z h1 h2 h3' h4
      by_cases c : l = a + 1 ∧ j = qn page a
      · rw [c.1, c.2, tbl_hang_at, if_neg (by decide)] at h4
        cases h4
      · rw [tbl_hang_out (fun _ _ => by decide) (fun i hi => by rw [un i hi]; decide) c] at h4
        obtain ⟨i, hi, hk⟩ := P.ne l j z h1 h2 c h4
        refine ⟨i, hi, ?_⟩
        rw [hang_out]
        · exact hk
        · rintro ⟨rfl, e⟩; exact h3' ⟨rfl, by omega⟩
        · rintro ⟨rfl, e⟩; exact c ⟨rfl, by omega⟩
    · have e1 : lfD (hang E a (qn page a) dN (fun _ => dN)) l j = lfD E l j := by
        unfold lfD
        by_cases c1 : l = a ∧ j = qn page a
        · obtain ⟨rfl, rfl⟩ := c1
          rw [hang_at, if_neg (by decide), if_pos k1]
        · by_cases c2 : l = a + 1 ∧ j / 512 = qn page a
          · obtain ⟨rfl, c2⟩ := c2
            have e : j = 512 * qn page a + j % 512 := by omega
            have u := un (j % 512) (Nat.mod_lt _ (by decide))
            have u2 := (h.ok (a + 1) (512 * qn page a + j % 512) (by omega)).none u
            rw [e, hang_in _ _ _ _ _ (Nat.mod_lt _ (by decide)), u2]
          · rw [hang_out _ _ _ _ _ c1 c2]
      rw [e1, P.lf l j hl, if_neg ha]
    · unfold zerM updM
      rw [if_neg (fun c => by rw [c, my.2.2] at hz; cases hz), if_neg (fun c => by rw [c.1, mx.2.2] at hz; cases hz)]
    · unfold putC
      rw [if_neg (fun c => by rw [c, my.2.2] at hz; cases hz)]
    · have := (h.ok a (qn page a) h3).parts.2.2.2.2.2.2.1
      omega
end
end Go.Proofs.YtanlcmdnhhdhaaaGreatDoor

/- stage2: place, at once; blocks that are refused; all of it. -/
namespace Go.Proofs.YtanlcmdnhhdhaaaGreatDoor
open Go.RowKit
set_option maxRecDepth 10000

section
variable {W w w' : World} {X Y : Nat → Prop} {bt p pm N pool o : Nat} {M : Nat → Nat → Nat} {C : Nat → Nat} {Z : Nat → Bool} {root : Nat} {E : Nat → Nat → DV}
set_option maxHeartbeats 8000000 in
theorem place_now (h : TS W X w bt p pm N pool o M C Z root E) (ne : NE root E (fun _ _ => False)) (page l : Nat) (d : DV) (hp : page < 268435456) (ho : o < 4000000000000000000) (hk : (enG E page).k = 0) (hlt : lvG E page = l) (hl3 : l ≤ 3) (ok : okD l d) (hd : d.k ≠ 0) (hd1 : d.k ≠ 1) (hb : d.k = 2 → l = 2) :
    Calls Tryz.prog 62 #[.pointer (some ⟨bt, 0, none⟩), .int .u64 (page : Int), .int .i64 (l : Int), dvV d] w fun e w' => e = .returned (.int .i64 0) ∧ (∃ M' C' E', TS W X w' bt p pm N pool (o + 12) M' C' Z root E' ∧ NE root E' (fun _ _ => False) ∧ Ot Z M C M' C' ∧ cnt (fT pool C') pool + (l - lvG E page) = cnt (fT pool C) pool ∧ ∀ a b, a ≤ 3 → lfD E' a b = if a = l ∧ b = qn page l then d else lfD E a b) ∧ Fr (Out W X) w w' := by
  have k1 := way_box h page d hp ho
  rw [decide_eq_false (by simpa using hk)] at k1
  have hn := h.fw.nums
  have hs := stps_get (root := root) (E := E) (p := page) (Nat.le_refl _)
  have P0 : PL root E E page (lvG E page) := PL.start hk ne
  have e0 := P0.none h.tg (by omega)
  have hst : stp root E page (lvG E page) = ⟨lvG E page, aG root E page (lvG E page), 0, dN⟩ := by
    unfold stp
    rw [e0]
    rfl
  rw [hst] at hs
  have HS : Hid ((stps root E page)[lvG E page]? = some ⟨lvG E page, aG root E page (lvG E page), 0, dN⟩ ∧ PL root E E page (lvG E page)) := ⟨hs, P0⟩
  have HH : Hid (X bt ∧ W.heap.size ≤ w.heap.size ∧ (∀ b, X b → b < w.heap.size) ∧ pool ≤ 1048576 ∧ pool < N ∧ page < 268435456 ∧ o < 4000000000000000000 ∧ l ≤ 3 ∧ lvG E page ≤ l ∧ l - lvG E page ≤ cnt (fT pool C) pool ∧ okD l d ∧ d.k ≠ 0 ∧ d.k ≠ 1 ∧ (d.k = 2 → l = 2)) := ⟨h.xb, h.fw.kp.size, h.fw.xlt, by omega, by omega, hp, ho, hl3, by omega, by omega, ok, hd, hd1, hb⟩
  have z2 : (l : Int) ≤ 3 := by omega
  have z3 : ¬ ((cnt (fT pool C) pool : Nat) : Int) < 0 := by omega
  clear h ne hp ho hk hs hl3 hn P0 e0 hst ok hd hd1 hb
  generalize stps root E page = L at *
  rw [hlt] at *
  clear hlt
  generalize haa : aG root E page l = aa at *
  have HA : Hid (aG root E page l = aa) := haa
  clear haa
  unfold dvV
  obtain ⟨dk, da, dr, dq, dx, df⟩ := d
  simp only at *
  go_enter Tryz.func62, Tryz.ntmps62
  go_wp2_with fail
  with_reducible refine k1.mono ?_
  rintro e w1 ⟨rfl, L1, H1, B1⟩
  have kf := wfree_any (H1.out.1.kps ((Kp.refl w1).alloc (.cells #[.int .i64 (l : Int), .int .u64 (aa : Int), .int .u64 0, .int .i64 0, .int .u64 0, .bool false, .bool false, .bool false, .int .i64 0] 64))).fw
  have x0 := L1.cell HS.out.1 (j := 0) rfl
  have x1 := L1.cell HS.out.1 (j := 1) rfl
  have x2 := L1.cell HS.out.1 (j := 2) rfl
  have x3 := L1.cell HS.out.1 (j := 3) rfl
  have x4 := L1.cell HS.out.1 (j := 4) rfl
  have x5 := L1.cell HS.out.1 (j := 5) rfl
  have x6 := L1.cell HS.out.1 (j := 6) rfl
  have x7 := L1.cell HS.out.1 (j := 7) rfl
  have x8 := L1.cell HS.out.1 (j := 8) rfl
  simp only [Nat.add_zero, dN] at x0 x1 x2 x3 x4 x5 x6 x7 x8
  rw [show ((0 : Nat) : Int) = 0 from rfl] at x2 x4
  have c0 : ∀ ob, (w1.alloc ob).cell? ⟨bt, 0, none⟩ = some (.pointer (some ⟨p, 0, none⟩)) := fun ob => (H1.out.1.tx.kp ((Kp.refl w1).alloc ob)).c0
  have HB : Hid (BX w1 w.heap.size dk da dr dq dx df) := B1
  clear k1 L1 B1
  go_wp2_with fail
  with_reducible refine kf.mono ?_
  rintro e w2 ⟨rfl, D2⟩
  have k := ((Kp.refl w1).alloc (.cells #[.int .i64 (l : Int), .int .u64 (aa : Int), .int .u64 0, .int .i64 0, .int .u64 0, .bool false, .bool false, .bool false, .int .i64 0] 64)).trans D2.kp
  have S2 : SBk w2 w1.heap.size ⟨l, aa, 0, dN⟩ := (SBk.made w1 ⟨l, aa, 0, dN⟩).kp D2.kp
  have B2 := HB.out.kp k
  have KR : Aside (Calls Tryz.prog 79 #[.pointer (some ⟨bt, 0, none⟩), svV ⟨l, aa, 0, dN⟩, dvV ⟨dk, da, dr, dq, dx, df⟩] w2 fun e w' => e = .returned (.tuple #[]) ∧ Hid ((∃ M' C' E', TS W X w' bt p pm N pool (o + 12) M' C' Z root E' ∧ NE root E' (fun _ _ => False) ∧ Ot Z M C M' C' ∧ cnt (fT pool C') pool + (l - l) = cnt (fT pool C) pool ∧ ∀ a b, a ≤ 3 → lfD E' a b = if a = l ∧ b = qn page l then ⟨dk, da, dr, dq, dx, df⟩ else lfD E a b) ∧ Fr (Out W X) w w')) := by
    obtain ⟨b1, b2, b3, b4, b5, b6, b7, b8, b9, b10, b11, b12, b13, b14⟩ := HH.out
    have T1 := (H1.out.1.kps k).less (X := X) (fun _ => .inl) b1
    have P1 := HS.out.2
    obtain ⟨x, hx, ex, lx⟩ := P1.tab T1.tg b6
    obtain ⟨g1, g2⟩ := T1.tg.laid P1 b8 b6 b11 b13 b14
    obtain ⟨g3, g4⟩ := P1.done (d := ⟨dk, da, dr, dq, dx, df⟩) T1.tg b8 b12 b13
    refine (replace_any T1.ft (tbX root E l (qn page l / 512)) (qn page l % 512) ⟨l, aa, 0, dN⟩ ⟨dk, da, dr, dq, dx, df⟩ HA.out.symm (fun c => by cases c) (by rw [ex]; omega) (Nat.mod_lt _ (by decide)) b11 (by omega)).mono fun e w' ⟨e1, e2, e3⟩ => ⟨e1, ⟨_, _, _, (e2.ts g1).le (by omega), g3, g2, (by rw [Nat.sub_self]; rfl), g4⟩, (H1.out.2.trans (k.fr _)).trans e3⟩
  have d0 := B2.c0
  have d1 := B2.c1
  have d2 := B2.c2
  have d3 := B2.c3
  have d4 := B2.c4
  have d5 := B2.c5
  have g0 := S2.c 0 rfl
  have g1 := S2.c 1 rfl
  have g2 := S2.c 2 rfl
  have g3 := S2.c 3 rfl
  have g4 := S2.c 4 rfl
  have g5 := S2.c 5 rfl
  have g6 := S2.c 6 rfl
  have g7 := S2.c 7 rfl
  have g8 := S2.c 8 rfl
  have kr := KR.out
  simp only [svV, dvV, dN] at kr
  simp only [dN] at g3 g4 g5 g6 g7 g8
  rw [show ((0 : Nat) : Int) = 0 from rfl] at kr g2 g4
  have y1 : ¬ (l : Int) < l := by omega
  clear KR kf H1 D2 c0 x0 x1 x2 x3 x4 x5 x6 x7 x8 HB HA HS B2 S2 k
  generalize cnt (fP pool N C) N = fp at *
  generalize w1.heap.size = bs at *
  go_wp2_with fail
  go_loopg [14] 2 (fun g _ wr => wr = w2 ∧ 1 ≤ g)
  case atStart => exact ⟨rfl, by omega⟩
  case round =>
    obtain ⟨rfl, hg⟩ := hrel
    go_wp2_with fail
    with_reducible refine kr.mono ?_
    rintro _ w3 ⟨rfl, H3⟩
    clear kr
    go_wp2
    go_ret
    exact ⟨rfl, H3.out⟩
set_option maxHeartbeats 4000000 in
/-- A block's pages are there. -/
theorem place_full (h : TS W X w bt p pm N pool o M C Z root E) (ne : NE root E (fun _ _ => False)) (page : Nat) (d : DV) (hp : page < 268435456) (ho : o < 4000000000000000000) (hk : (enG E page).k = 0) (hl : lvG E page = 3) :
    Calls Tryz.prog 62 #[.pointer (some ⟨bt, 0, none⟩), .int .u64 (page : Int), .int .i64 2, dvV d] w fun e w' => e = .returned (.int .i64 22) ∧ TS W X w' bt p pm N pool (o + 4) M C Z root E ∧ Fr (Out W X) w w' := by
  have k1 := way_box h page d hp ho
  rw [decide_eq_false (by simpa using hk), hl] at k1
  have hs := stps_get (root := root) (E := E) (p := page) (l := 2) (by omega)
  have h2 : (E 2 (qn page 2)).k = 1 := lvG_on (by omega)
  obtain ⟨y, hy⟩ : ∃ y, (E 2 (qn page 2)).a = y * 4096 := ⟨(E 2 (qn page 2)).a / 4096, by have := (h.tg.ok 2 (qn page 2) (by omega)).parts.2.2.2.2.2.1; omega⟩
  have ht : tbl root E 3 (qn page 2) = some y := by rw [tbl_succ, if_pos h2, hy, Nat.mul_div_cancel _ (by decide)]
  have hne := ne 3 (qn page 2) y (by omega) (by omega) (fun c => c) ht
  have KA : Aside (∀ v, TS W (fun i => X i ∨ i = w.heap.size) v bt p pm N pool (o + 4) M C Z root E → Calls Tryz.prog 96 #[.pointer (some ⟨bt, 0, none⟩), .int .u64 ((y * 4096 : Nat) : Int)] v fun e w' => e = .returned (.bool true) ∧ Kp v w') := fun v hv => anyPage_yes hv ht hne
  have hst : (stp root E page 2).l = 2 ∧ (stp root E page 2).d.k = 1 ∧ (stp root E page 2).d.a = y * 4096 := ⟨rfl, h2, hy⟩
  have HS : Hid ((stps root E page)[2]? = some (stp root E page 2) ∧ X bt) := ⟨hs, h.xb⟩
  clear h ne hp ho hk hl hs h2 hy ht hne
  generalize stps root E page = L at *
  generalize stp root E page 2 = st at *
  obtain ⟨sl, sp, su, sk, sa, sr, sq, sx, sf⟩ := st
  obtain ⟨e1, e2, e3⟩ := hst
  simp only at e1 e2 e3
  subst e1
  subst e2
  subst e3
  unfold dvV
  obtain ⟨dk, da, dr, dq, dx, df⟩ := d
  simp only at *
  generalize y * 4096 = ya at *
  go_enter Tryz.func62, Tryz.ntmps62
  go_wp2_with fail
  with_reducible refine k1.mono ?_
  rintro e w1 ⟨rfl, L1, H1, B1⟩
  have x0 := L1.cell HS.out.1 (j := 0) rfl
  have x1 := L1.cell HS.out.1 (j := 1) rfl
  have x2 := L1.cell HS.out.1 (j := 2) rfl
  have x3 := L1.cell HS.out.1 (j := 3) rfl
  have x4 := L1.cell HS.out.1 (j := 4) rfl
  have x5 := L1.cell HS.out.1 (j := 5) rfl
  have x6 := L1.cell HS.out.1 (j := 6) rfl
  have x7 := L1.cell HS.out.1 (j := 7) rfl
  have x8 := L1.cell HS.out.1 (j := 8) rfl
  rw [show ((2 : Nat) : Int) = 2 from rfl] at x0
  have ka := fun ob => KA.out (w1.alloc ob) (H1.out.1.kps ((Kp.refl w1).alloc ob))
  clear k1 L1 B1 KA
  go_wp2_with fail
  with_reducible refine (ka _).mono ?_
  rintro e w2 ⟨rfl, K2⟩
  have H2 : Hid (TS W X w2 bt p pm N pool (o + 4) M C Z root E ∧ Fr (Out W X) w w2) := by
    have k := ((Kp.refl w1).alloc (.cells #[.int .i64 2, .int .u64 (sp : Int), .int .u64 (su : Int), .int .i64 1, .int .u64 (ya : Int), .bool sr, .bool sq, .bool sx, .int .i64 sf] 64)).trans K2
    exact ⟨(H1.out.1.kps k).less (fun _ => .inl) HS.out.2, H1.out.2.trans (k.fr _)⟩
  clear ka H1 K2
  go_wp2
  go_ret
  exact ⟨rfl, H2.out⟩
/-- What place tells. -/
def plR (pool : Nat) (C : Nat → Nat) (E : Nat → Nat → DV) (page l : Nat) : Int := if (enG E page).k ≠ 0 ∨ l < lvG E page then 22 else if cnt (fT pool C) pool < l - lvG E page then 11 else 0
/-- What an act leaves: words, counts and entries M', C', E'. -/
structure AC (W : World) (X : Nat → Prop) (w w' : World) (bt p pm N pool o : Nat) (M : Nat → Nat → Nat) (C : Nat → Nat) (Z : Nat → Bool) (root : Nat) (C' : Nat → Nat) (E' : Nat → Nat → DV) : Prop where
  ts : ∃ M', TS W X w' bt p pm N pool o M' C' Z root E' ∧ Ot Z M C M' C'
  ne : NE root E' (fun _ _ => False)
  fr : Fr (Out W X) w w'
theorem AC.same (ne : NE root E (fun _ _ => False)) {o' : Nat} (t : TS W X w' bt p pm N pool o' M C Z root E) (ho : o' ≤ o) (f : Fr (Out W X) w w') : AC W X w w' bt p pm N pool o M C Z root C E := ⟨⟨M, t.le ho, Ot.refl _ _ _⟩, ne, f⟩
theorem tplace_any (h : TS W X w bt p pm N pool o M C Z root E) (ne : NE root E (fun _ _ => False)) (page l : Nat) (d : DV) (hp : page < 268435456) (ho : o < 4000000000000000000) (hl2 : 2 ≤ l) (hl3 : l ≤ 3) (ok : okD l d) (hd : d.k ≠ 0) (hd1 : d.k ≠ 1) (hb : d.k = 2 → l = 2) :
    Calls Tryz.prog 62 #[.pointer (some ⟨bt, 0, none⟩), .int .u64 (page : Int), .int .i64 (l : Int), dvV d] w fun e w' => e = .returned (.int .i64 (plR pool C E page l)) ∧ ∃ C' E', AC W X w w' bt p pm N pool (o + 12) M C Z root C' E' ∧ (plR pool C E page l ≠ 0 → C' = C ∧ E' = E) ∧ (plR pool C E page l = 0 → cnt (fT pool C') pool + (l - lvG E page) = cnt (fT pool C) pool ∧ ∀ a b, a ≤ 3 → lfD E' a b = if a = l ∧ b = qn page l then d else lfD E a b) := by
  have h3 := lvG_le E page
  unfold plR
  by_cases c1 : (enG E page).k ≠ 0
  · rw [if_pos (.inl c1)]
    exact (place_there h page l d hp ho c1).mono fun e w' ⟨e1, e2, e3⟩ => ⟨e1, C, E, AC.same ne e2 (by omega) e3, fun _ => ⟨rfl, rfl⟩, fun c => by cases c⟩
  · have c1' : (enG E page).k = 0 := Decidable.not_not.1 c1
    by_cases c2 : l < lvG E page
    · rw [if_pos (.inr c2)]
      have e2 : l = 2 := by omega
      subst e2
      exact (place_full h ne page d hp ho c1' (by omega)).mono fun e w' ⟨e1, e2, e3⟩ => ⟨e1, C, E, AC.same ne e2 (by omega) e3, fun _ => ⟨rfl, rfl⟩, fun c => by cases c⟩
    · rw [if_neg (fun c => c.elim c1 c2)]
      by_cases c3 : cnt (fT pool C) pool < l - lvG E page
      · rw [if_pos c3]
        exact (place_pool h page l d hp ho c1' (by omega) hl3 c3).mono fun e w' ⟨e1, e2, e3⟩ => ⟨e1, C, E, AC.same ne e2 (by omega) e3, fun _ => ⟨rfl, rfl⟩, fun c => by cases c⟩
      · rw [if_neg c3]
        rcases (by omega : lvG E page < l ∨ lvG E page = l) with c4 | c4
        · exact (place_deep h ne page l d hp ho c1' c4 hl3 c3 ok hd hd1 hb).mono fun e w' ⟨e1, ⟨M', C', E', a1, a2, a3, a4, a5⟩, e3⟩ => ⟨e1, C', E', ⟨⟨M', a1, a3⟩, a2, e3⟩, fun c => absurd rfl c, fun _ => ⟨a4, a5⟩⟩
        · exact (place_now h ne page l d hp ho c1' c4 hl3 ok hd hd1 hb).mono fun e w' ⟨e1, ⟨M', C', E', a1, a2, a3, a4, a5⟩, e3⟩ => ⟨e1, C', E', ⟨⟨M', a1, a3⟩, a2, e3⟩, fun c => absurd rfl c, fun _ => ⟨a4, a5⟩⟩
end
end Go.Proofs.YtanlcmdnhhdhaaaGreatDoor
