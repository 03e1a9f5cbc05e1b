/- Joined: R55, R56, R57. -/
import Derived.Test.YtanlcmdnhhdhaaaGreatDoorJ34
/- The document's second stage: MapBlock. -/
namespace Go.Proofs.YtanlcmdnhhdhaaaGreatDoor
open Go.RowKit
set_option maxRecDepth 10000

/-- Is a page of the block mapped? -/
def anyB (L : List LV) (page : Nat) : Bool := L.any (fun z => z.g / 512 * 512 == page)
def nbB (L : List LV) (page i : Nat) : Prop := ∀ (j : Nat) (z : LV), j < i → L[j]? = some z → z.g / 512 * 512 ≠ page
theorem nbB_zero (L : List LV) (page : Nat) : nbB L page 0 := fun j _ hj => absurd hj (Nat.not_lt_zero j)
theorem nbB_succ {L : List LV} {page i : Nat} {z : LV} (h : nbB L page i) (hz : L[i]? = some z) (hn : z.g / 512 * 512 ≠ page) : nbB L page (i + 1) := fun j z' hj hz' => by
  by_cases ej : j = i
  · subst ej; rw [hz] at hz'; cases hz'; exact hn
  · exact h j z' (by omega) hz'
def rmapbR (gone : Bool) (L : List LV) (fr : Int) (page : Nat) (f : Int) (x : LV) (r q : Bool) (s : Int) : Int := if gone = true then 23 else if badN page (decide (0 ≤ f) && decide (f ≤ 1588)) r q s ≠ 0 then badN page (decide (0 ≤ f) && decide (f ≤ 1588)) r q s else if page % 512 ≠ 0 ∨ f % 512 ≠ 0 then 3 else if anyB L page = true then 22 else if setB fr L (withL L x) = true then 0 else 11
set_option maxHeartbeats 8000000 in
theorem rmapb_any {w : World} {br bf : Nat} {v : Value} {L : List LV} {fr : Int} {gone : Bool} (h : RQ w br bf v L fr gone) (hl : L.length ≤ 900000) (page : Nat) (f : Int) (r q x : Bool) (s : Int) (hf : -1000000000 ≤ fr ∧ fr ≤ 1000000000) (y : LV) (hy : y = ⟨page, f.toNat, r, q, x, s, 2⟩) (rr : Int) (hrr : rr = rmapbR gone L fr page f y r q s) :
    Calls Tryz.prog 32 #[.pointer (some ⟨br, 0, none⟩), .int .u64 (page : Int), .int .i64 f, .agg #[.bool r, .bool q, .bool x], .int .i64 s] w fun e w' => e = .returned (.int .i64 rr) ∧ Hid ((rr = 0 → RN w w' br bf v (withL L y) (fr - ((tabL (withL L y) : Int) - (tabL L : Int))) gone) ∧ (rr ≠ 0 → RN w w' br bf v L fr gone)) := by
  obtain ⟨na, cap, rfl, _⟩ := h.slice
  have HR : Hid (rr = rmapbR gone L fr page f y r q s) := hrr
  obtain ⟨w1, hw1⟩ : ∃ w1, w1 = w.alloc (.cells #[.bool r, .bool q, .bool x] 39) := ⟨_, rfl⟩
  have k1 : Kp w w1 := by rw [hw1]; exact (Kp.refl w).alloc _
  have P1 : PX w1 w.heap.size r q x := by rw [hw1]; exact PX.made w r q x
  have h1 := h.kp k1
  have c3 := h1.c3
  have RS : Hid (∀ u, Kp w u → RN w u br bf (.slice na L.length cap) L fr gone) := fun u k => RN.same h k
  by_cases g1 : gone = true
  · have HE : Hid (rr = 23) := by show rr = 23; rw [HR.out]; unfold rmapbR; rw [if_pos g1]
    subst g1
    rw [hw1] at c3
    have HK : Hid (Kp w (w.alloc (.cells #[.bool r, .bool q, .bool x] 39))) := by rw [← hw1]; exact k1
    clear h h1 hrr HR P1 k1 hw1
    go_enter Tryz.func32, Tryz.ntmps32
    go_wp2_with fail
    go_ret
    exact ⟨by rw [HE.out]; rfl, fun c => (by rw [HE.out] at c; cases c), fun _ => RS.out _ HK.out⟩
  obtain rfl : gone = false := by simpa using g1
  obtain ⟨fs, hfs⟩ : ∃ fs, fs = (decide (0 ≤ f) && decide (f ≤ 1588)) := ⟨_, rfl⟩
  obtain ⟨bd, hbd⟩ : ∃ bd, bd = badN page fs r q s := ⟨_, rfl⟩
  have KB : Aside (∀ P : KeptBy w1, Calls Tryz.prog 71 #[.int .u64 (page : Int), .bool fs, .agg #[.bool r, .bool q, .bool x], .int .i64 s] P.v fun e w' => e = .returned (.int .i64 bd) ∧ Kp P.v w') := fun P => by rw [hbd]; exact rbad_any page fs r q x s P.v
  have x2 : ∀ P : KeptBy w1, P.v.cell? ⟨br, 2, none⟩ = some (.int .i64 2100) := fun P => (h1.kp P.k).c2
  have u0 : ∀ P : KeptBy w1, P.v.cell? ⟨w.heap.size, 0, none⟩ = some (.bool r) := fun P => (P1.kp P.k).c0
  have u1 : ∀ P : KeptBy w1, P.v.cell? ⟨w.heap.size, 1, none⟩ = some (.bool q) := fun P => (P1.kp P.k).c1
  have u2 : ∀ P : KeptBy w1, P.v.cell? ⟨w.heap.size, 2, none⟩ = some (.bool x) := fun P => (P1.kp P.k).c2
  have NE : Nonempty (KeptBy w1) := KeptBy.some
  have HB : Hid (∀ P : KeptBy w1, P.v.cell? ⟨w.heap.size, 0, none⟩ = some (.bool r) ∧ P.v.cell? ⟨w.heap.size, 1, none⟩ = some (.bool q) ∧ P.v.cell? ⟨w.heap.size, 2, none⟩ = some (.bool x) ∧ P.v.cell? ⟨br, 0, none⟩ = some (.slice na L.length cap) ∧ Kp w P.v) := fun P => ⟨u0 P, u1 P, u2 P, (h1.kp P.k).c0, k1.trans P.k⟩
  have HH : Hid (RQ w br bf (.slice na L.length cap) L fr false ∧ L.length ≤ 900000 ∧ (-1000000000 ≤ fr ∧ fr ≤ 1000000000) ∧ bd = badN page fs r q s ∧ fs = (decide (0 ≤ f) && decide (f ≤ 1588)) ∧ rr = rmapbR false L fr page f y r q s ∧ y = ⟨page, f.toNat, r, q, x, s, 2⟩) := ⟨h, hl, hf, hbd, hfs, hrr, hy⟩
  have hgd : (decide (0 ≤ f) = true ∧ fs = decide (f ≤ 1588)) ∨ (decide (0 ≤ f) = false ∧ fs = false) := by
    by_cases c : 0 ≤ f
    · exact .inl ⟨decide_eq_true c, by rw [hfs, decide_eq_true c, Bool.true_and]⟩
    · exact .inr ⟨decide_eq_false c, by rw [hfs, decide_eq_false c, Bool.false_and]⟩
  clear h h1 hrr HR P1 g1 hfs hbd hy hf hl k1
  rcases hgd with ⟨g2, rfl⟩ | ⟨g2, rfl⟩
  · go_enter Tryz.func32, Tryz.ntmps32
    rw [hw1] at c3
    go_wp2_with fail
    rw [← hw1]
    refine wp_region_kept mixed (by kernel_rfl) ?_
    repeat (go_big_quiet_step (first | exact rfl | (go_at_call 71; with_reducible refine Calls.kept_of (KB.out _))))
    refine wpQuiet_nil ?_
    intro _ hw'
    obtain ⟨⟨wq, kq⟩, hw''⟩ := hw'
    subst hw''
    rename_i w2
    have p0 : w2.cell? ⟨w.heap.size, 0, none⟩ = some (.bool r) := (HB.out ⟨w2, kq⟩).1
    have p1 : w2.cell? ⟨w.heap.size, 1, none⟩ = some (.bool q) := (HB.out ⟨w2, kq⟩).2.1
    have p2 : w2.cell? ⟨w.heap.size, 2, none⟩ = some (.bool x) := (HB.out ⟨w2, kq⟩).2.2.1
    have c0 : w2.cell? ⟨br, 0, none⟩ = some (.slice na L.length cap) := (HB.out ⟨w2, kq⟩).2.2.2.1
    have kw : Kp w w2 := (HB.out ⟨w2, kq⟩).2.2.2.2
    have RW : Hid (RN w w2 br bf (.slice na L.length cap) L fr false) := RS.out _ kw
    have HW : Hid (Kp w w2) := kw
    clear x2 u0 u1 u2 NE KB HB kq hw1 c3 RS kw
    by_cases c1 : bd = 0
    · obtain ⟨h, hl, hf, a1, a2, a3, a4⟩ := HH.out
      have er : rr = if page % 512 ≠ 0 ∨ f % 512 ≠ 0 then 3 else if anyB L page = true then 22 else if setB fr L (withL L y) = true then 0 else 11 := by
        rw [a3]; unfold rmapbR; rw [if_neg (by decide), ← a2, ← a1, if_neg (fun c => c c1)]
      have pg : page < 268435456 ∧ f ≤ 1588 := by
        rw [c1] at a1
        unfold badN at a1
        by_cases c : 268435456 ≤ page ∨ decide (f ≤ 1588) = false
        · rw [if_pos c] at a1; cases a1
        · refine ⟨?_, ?_⟩
          · exact Decidable.byContradiction fun c' => c (.inl (by omega))
          · exact Decidable.byContradiction fun c' => c (.inr (decide_eq_false c'))
      have y0 : 0 ≤ f := of_decide_eq_true g2
      obtain ⟨fn, rfl⟩ : ∃ fn : Nat, f = (fn : Int) := ⟨f.toNat, by omega⟩
      rw [Int.toNat_natCast] at a4
      have oky : okL (withL L y) := okL_with h.ok (by rw [a4]; exact ⟨.inl rfl, by show page < 268435968; omega, by show fn < 2100; omega, fun _ => ⟨by show fn + 511 < 2100; omega, by show page ≤ 268435456; omega⟩⟩)
      have lw := len_with L y
      have KW : Aside (∀ v, Kp w2 v → Calls Tryz.prog 74 #[.slice na L.length cap, .agg #[.int .u64 (page : Int), .int .i64 (fn : Int), .bool r, .bool q, .bool x, .int .i64 s, .int .i64 2]] v fun e w' => (∃ na' n' cap', e = .returned (.slice na' n' cap') ∧ Hid (RO w' (.slice na' n' cap') (withL L y) ∧ (∀ b, (Value.slice na' n' cap').ownBlock = some b → w.heap.size ≤ b) ∧ Kp w w')) ∧ Kp v w') := fun v k' => by
        have := rwith_any (h.kp (HW.out.trans k')).ol (by omega) y
        rw [a4] at this ⊢
        exact this.mono fun e w' ⟨⟨a, b, c, e1, e2⟩, e3⟩ => ⟨⟨a, b, c, e1, e2.out.1, fun b' hb' => Nat.le_trans (HW.out.trans k').size (e2.out.2 b' hb'), (HW.out.trans k').trans e3⟩, e3⟩
      have KS : Aside (∀ v a b c, (RO v (.slice a b c) (withL L y) ∧ (∀ b', (Value.slice a b c).ownBlock = some b' → w.heap.size ≤ b') ∧ Kp w v) → Calls Tryz.prog 73 #[.pointer (some ⟨br, 0, none⟩), .slice a b c] v fun e w' => e = .returned (.bool (setB fr L (withL L y))) ∧ Hid ((setB fr L (withL L y) = true → RN w w' br bf (.slice na L.length cap) (withL L y) (fr - ((tabL (withL L y) : Int) - (tabL L : Int))) false) ∧ (setB fr L (withL L y) = false → RN w w' br bf (.slice na L.length cap) L fr false))) := fun v a b c ⟨o1, o2, o3⟩ => rset_new h (by omega) o3 o1 oky (by omega) o2 (by omega)
      obtain ⟨sb, hsb⟩ : ∃ sb, sb = setB fr L (withL L y) := ⟨_, rfl⟩
      rw [← hsb] at KS er
      subst c1
      have HQ : Hid (RQ w2 br bf (.slice na L.length cap) L fr false ∧ L.length ≤ 900000) := ⟨h.kp HW.out, hl⟩
      clear h hf a1 a2 a3 a4 hsb oky lw HH y0
      have z9 : (fn : Int) ≤ 1588 := pg.2
      by_cases d1 : page % 512 = 0
      · have b1 : (page : Int) % 512 = 0 := by omega
        by_cases d2 : fn % 512 = 0
        · have b2 : (fn : Int).tmod 512 = 0 := by rw [Int.tmod_eq_emod_of_nonneg (by omega)]; omega
          rw [if_neg (by omega)] at er
          have HE : Hid (rr = if anyB L page = true then 22 else if sb = true then 0 else 11) := er
          have z0 : (L.length : Int) ≤ 900000 := by omega
          clear er d1 d2 pg hl
          obtain ⟨n, hn⟩ : ∃ n, n = L.length := ⟨_, rfl⟩
          rw [← hn] at c0 z0
          have HN : Hid (n = L.length) := hn
          have KW' := KW
          rw [← hn] at KW'
          clear KW hn
          go_wp2_with fail
          simp only [b1, show decide ((fn : Int) ≤ 1588) = true from decide_eq_true z9]
          clear b1 b2 z9
          go_loopg [12] (n + 1) (fun gg v12 wr => ∃ i : Nat, v12 = .int .i64 (i : Int) ∧ i ≤ n ∧ n + 1 - i ≤ gg ∧ wr = w2 ∧ Hid (nbB L page i))
          case atStart => exact ⟨0, rfl, by omega, by omega, rfl, nbB_zero L page⟩
          case round =>
            obtain ⟨i, rfl, hi, hg, rfl, HI⟩ := hrel
            by_cases e : i < n
            · obtain ⟨z, hz⟩ : ∃ z, L[i]? = some z := ⟨_, List.getElem?_eq_getElem (by have := HN.out; omega)⟩
              obtain ⟨g, rfl, _, hc⟩ := HQ.out.1.ol.at hz
              have d0 : wr.cell? ⟨g, i * 7, none⟩ = some (.int .u64 (z.g : Int)) := hc 0 _ rfl
              have hzk := (HQ.out.1.ok z (List.mem_of_getElem? hz)).2.1
              have ha := andn_511 z.g (by omega)
              have y1 : (i : Int) < n := by omega
              obtain ⟨gz, hgz⟩ : ∃ gz, gz = z.g := ⟨_, rfl⟩
              obtain ⟨pf, hpf⟩ : ∃ pf, pf = z.g / 512 * 512 := ⟨_, rfl⟩
              rw [← hpf] at ha
              rw [← hgz] at ha d0
              by_cases c2 : pf = page
              · have HE2 : Hid (rr = 22) := by
                  show rr = 22
                  rw [HE.out, if_pos]
                  unfold anyB
                  rw [List.any_eq_true]
                  exact ⟨z, List.mem_of_getElem? hz, by rw [← hpf, c2]; simp⟩
                have y2 := beq_nat_t c2
                clear hc hz hzk hgz hpf c2 HE KS KW'
                go_wp2_with fail
                go_ret
                exact ⟨by rw [HE2.out]; rfl, fun c => (by rw [HE2.out] at c; cases c), fun _ => RW.out⟩
              · have HI2 : Hid (nbB L page (i + 1)) := nbB_succ HI.out hz (by rw [← hpf]; exact c2)
                have y2 := beq_nat_f c2
                have y2' : decide ((pf : Int) = (page : Int)) = false := decide_eq_false (by omega)
                clear hc hz hzk hgz hpf c2 HI
                go_wp2_with fail
                go_roundg (n + 1 - (i + 1))
                case measure => omega
                case rel => exact ⟨i + 1, by go_num, by omega, by omega, rfl, HI2⟩
            · have y1 : ¬ (i : Int) < n := by omega
              have HE2 : Hid (rr = if sb = true then 0 else 11) := by
                show rr = _
                rw [HE.out, if_neg]
                unfold anyB
                rw [List.any_eq_true]
                rintro ⟨z, hz, c⟩
                obtain ⟨j, hj, rfl⟩ := List.mem_iff_getElem.1 hz
                exact HI.out j _ (by have := HN.out; omega) (List.getElem?_eq_getElem hj) (by simpa using c)
              clear HE HI
              go_wp2_with fail
              go_region_with (first | (go_at_call 74; with_reducible refine (KW'.out _ (by first | exact Kp.refl _ | exact (Kp.refl _).drew | exact (Kp.refl _).drewN _)).mono ?_; rintro e w3 ⟨⟨a1, n1, p1, rfl, O1⟩, K3⟩) | (go_at_call 73; with_reducible refine (KS.out _ _ _ _ O1.out).mono ?_; rintro e w4 ⟨rfl, S4⟩))
              all_goals
                clear KW' KS O1 K3
                cases sb
                · have HE' : Hid (rr = 11) := HE2.out
                  go_wp2_with fail
                  go_ret
                  exact ⟨by rw [HE'.out]; rfl, fun c => (by rw [HE'.out] at c; cases c), fun _ => S4.out.2 trivial⟩
                · have HE' : Hid (rr = 0) := HE2.out
                  go_wp2_with fail
                  go_ret
                  exact ⟨by rw [HE'.out]; rfl, fun _ => S4.out.1 trivial, fun c => absurd HE'.out c⟩
        · obtain ⟨m5, hm5⟩ : ∃ m5, m5 = fn % 512 := ⟨_, rfl⟩
          have b2 : (fn : Int).tmod 512 = (m5 : Int) := by rw [Int.tmod_eq_emod_of_nonneg (by omega)]; omega
          have b3 : ((m5 : Int) == 0) = false := by rw [beq_eq_false_iff_ne]; omega
          have b4 : ((m5 : Int) != 0) = true := by rw [bne_iff_ne]; omega
          have b5 : decide ((m5 : Int) = 0) = false := decide_eq_false (by omega)
          have b6 : decide (m5 = 0) = false := decide_eq_false (by omega)
          have b7 : ¬ m5 = 0 := by omega
          rw [if_pos (.inr (by omega))] at er
          have HE : Hid (rr = 3) := er
          clear er d1 d2 pg hl KW KS hm5
          go_wp2_with fail
          go_ret
          exact ⟨by rw [HE.out]; rfl, fun c => (by rw [HE.out] at c; cases c), fun _ => RW.out⟩
      · have b1 : (page : Int) % 512 ≠ 0 := by omega
        have b3 : ((page : Int) % 512 == 0) = false := by simpa using b1
        have b4 : ((page : Int) % 512 != 0) = true := by simpa using b1
        rw [if_pos (.inl d1)] at er
        have HE : Hid (rr = 3) := er
        clear er d1 pg hl KW KS
        go_wp2_with fail
        go_ret
        exact ⟨by rw [HE.out]; rfl, fun c => (by rw [HE.out] at c; cases c), fun _ => RW.out⟩
    · have HE : Hid (rr = bd ∧ bd ≠ 0) := ⟨by obtain ⟨_, _, _, a1, a2, a3, _⟩ := HH.out; rw [a3]; unfold rmapbR; rw [if_neg (by decide), ← a2, ← a1, if_pos c1], c1⟩
      have y1 : (bd == 0) = false := by rw [beq_eq_false_iff_ne]; exact c1
      have y2 : (bd != 0) = true := by rw [bne_iff_ne]; exact c1
      have y3 : decide (bd = 0) = false := decide_eq_false c1
      go_wp2_with fail
      go_ret
      exact ⟨by rw [HE.out.1]; rfl, fun c => absurd (HE.out.1 ▸ c) HE.out.2, fun _ => RW.out⟩
  · go_enter Tryz.func32, Tryz.ntmps32
    rw [hw1] at c3
    go_wp2_with fail
    rw [← hw1]
    refine wp_region_kept mixed (by kernel_rfl) ?_
    repeat (go_big_quiet_step (first | exact rfl | (go_at_call 71; with_reducible refine Calls.kept_of (KB.out _))))
    refine wpQuiet_nil ?_
    intro _ hw'
    obtain ⟨⟨wq, kq⟩, hw''⟩ := hw'
    subst hw''
    rename_i w2
    have p0 : w2.cell? ⟨w.heap.size, 0, none⟩ = some (.bool r) := (HB.out ⟨w2, kq⟩).1
    have p1 : w2.cell? ⟨w.heap.size, 1, none⟩ = some (.bool q) := (HB.out ⟨w2, kq⟩).2.1
    have p2 : w2.cell? ⟨w.heap.size, 2, none⟩ = some (.bool x) := (HB.out ⟨w2, kq⟩).2.2.1
    have c0 : w2.cell? ⟨br, 0, none⟩ = some (.slice na L.length cap) := (HB.out ⟨w2, kq⟩).2.2.2.1
    have kw : Kp w w2 := (HB.out ⟨w2, kq⟩).2.2.2.2
    have RW : Hid (RN w w2 br bf (.slice na L.length cap) L fr false) := RS.out _ kw
    have HW : Hid (Kp w w2) := kw
    clear x2 u0 u1 u2 NE KB HB kq hw1 c3 RS kw
    by_cases c1 : bd = 0
    · exfalso
      obtain ⟨_, _, _, a1, _⟩ := HH.out
      rw [c1] at a1
      unfold badN at a1
      rw [if_pos (.inr rfl)] at a1
      cases a1
    · have HE : Hid (rr = bd ∧ bd ≠ 0) := ⟨by obtain ⟨_, _, _, a1, a2, a3, _⟩ := HH.out; rw [a3]; unfold rmapbR; rw [if_neg (by decide), ← a2, ← a1, if_pos c1], c1⟩
      have y1 : (bd == 0) = false := by rw [beq_eq_false_iff_ne]; exact c1
      have y2 : (bd != 0) = true := by rw [bne_iff_ne]; exact c1
      have y3 : decide (bd = 0) = false := decide_eq_false c1
      go_wp2_with fail
      go_ret
      exact ⟨by rw [HE.out.1]; rfl, fun c => absurd (HE.out.1 ▸ c) HE.out.2, fun _ => RW.out⟩
end Go.Proofs.YtanlcmdnhhdhaaaGreatDoor

/- The document's second stage: halves. -/
namespace Go.Proofs.YtanlcmdnhhdhaaaGreatDoor
open Go.RowKit
set_option maxRecDepth 10000

/-- The Page at the place i of a Block. -/
def pgV (b : LV) (i : Nat) : LV := ⟨b.g + i, b.x + i, b.r, b.q, b.e, b.f, 3⟩
def pgsV (b : LV) (n : Nat) : List LV := (List.range n).map (pgV b)
theorem pgsV_succ (b : LV) (n : Nat) : pgsV b (n + 1) = pgsV b n ++ [pgV b n] := by unfold pgsV; rw [List.range_succ, List.map_append]; rfl
def halvL (L : List LV) (k : Nat) (b : LV) : List LV := L.take k ++ pgsV b 512 ++ L.drop (k + 1)
set_option maxHeartbeats 8000000 in
theorem rhalves_any {w : World} {br bf : Nat} {v : Value} {L : List LV} {fr : Int} {gone : Bool} (h : RQ w br bf v L fr gone) (hl : L.length ≤ 900000) {k : Nat} {b : LV} (hk : L[k]? = some b) (h2 : b.l = 2) :
    Calls Tryz.prog 77 #[.pointer (some ⟨br, 0, none⟩), .int .i64 (k : Int)] w fun e w' => (∃ na' n' cap', e = .returned (.slice na' n' cap') ∧ Hid (RO w' (.slice na' n' cap') (halvL L k b) ∧ ∀ b, (Value.slice na' n' cap').ownBlock = some b → w.heap.size ≤ b)) ∧ Kp w w' := by
  obtain ⟨na, cap, rfl, hcap⟩ := h.slice
  obtain ⟨g, rfl, hgl, hc⟩ := h.ol.at hk
  have kn := (List.getElem?_eq_some_iff.1 hk).1
  have c0 := h.c0
  have hok := h.ok b (List.mem_of_getElem? hk)
  have d0 : w.cell? ⟨g, k * 7, none⟩ = some (.int .u64 (b.g : Int)) := hc 0 _ rfl
  have d1 := hc 1 _ rfl
  have d2 := hc 2 _ rfl
  have d3 := hc 3 _ rfl
  have d4 := hc 4 _ rfl
  have d5 := hc 5 _ rfl
  have d6 := hc 6 _ rfl
  obtain ⟨n, hn⟩ : ∃ n, n = L.length := ⟨_, rfl⟩
  rw [← hn] at c0 hcap
  have y1 : (k : Int) < n := by omega
  have y2 : (k : Int) ≤ cap := by omega
  have y4 : (n : Int) ≤ cap := by omega
  have y5 : (k : Int) ≤ n := by omega
  have z0 : (n : Int) ≤ 900000 := by omega
  have HH : Hid (RQ w br bf (.slice (some ⟨g, 0, none⟩) L.length cap) L fr gone ∧ n = L.length ∧ L.length ≤ 900000 ∧ k < n ∧ n ≤ cap ∧ b.g ≤ 268435456 ∧ b.x + 511 < 2100) := ⟨h, hn, hl, by omega, hcap, (hok.2.2.2 h2).2, (hok.2.2.2 h2).1⟩
  -- the copy of the leaf, the new list
  have kb : Kp w (w.alloc (.cells #[.int .u64 (b.g : Int), .int .i64 (b.x : Int), .bool b.r, .bool b.q, .bool b.e, .int .i64 b.f, .int .i64 (b.l : Int)] 93)) := (Kp.refl w).alloc _
  have ke : Kp (w.alloc (.cells #[.int .u64 (b.g : Int), .int .i64 (b.x : Int), .bool b.r, .bool b.q, .bool b.e, .int .i64 b.f, .int .i64 (b.l : Int)] 93)) ((w.alloc (.cells #[.int .u64 (b.g : Int), .int .i64 (b.x : Int), .bool b.r, .bool b.q, .bool b.e, .int .i64 b.f, .int .i64 (b.l : Int)] 93)).alloc (.cells #[] 93)) := (Kp.refl _).alloc _
  obtain ⟨na1, n1, cap1, w1, r1, hn1, o1, k1, b1⟩ := leaf_append (W := w.alloc (.cells #[.int .u64 (b.g : Int), .int .i64 (b.x : Int), .bool b.r, .bool b.q, .bool b.e, .int .i64 b.f, .int .i64 (b.l : Int)] 93)) (ro_empty (w.alloc (.cells #[.int .u64 (b.g : Int), .int .i64 (b.x : Int), .bool b.r, .bool b.q, .bool b.e, .int .i64 b.f, .int .i64 (b.l : Int)] 93))) ke (fun b hb => by cases hb; exact Nat.le_refl _) (L.take k) ((h.ol.take (k := k) (by omega)).kp (kb.trans ke)) (by simp only [List.length_take, List.length_nil]; omega) 67
  rw [List.nil_append] at o1
  have es : (w.alloc (.cells #[.int .u64 (b.g : Int), .int .i64 (b.x : Int), .bool b.r, .bool b.q, .bool b.e, .int .i64 b.f, .int .i64 (b.l : Int)] 93)).heap.size = w.heap.size + 1 := by simp
  rw [es] at r1
  have hbl : ∀ u, Kp (w.alloc (.cells #[.int .u64 (b.g : Int), .int .i64 (b.x : Int), .bool b.r, .bool b.q, .bool b.e, .int .i64 b.f, .int .i64 (b.l : Int)] 93)) u → u.heap[w.heap.size]? = some (.cells #[.int .u64 (b.g : Int), .int .i64 (b.x : Int), .bool b.r, .bool b.q, .bool b.e, .int .i64 b.f, .int .i64 (b.l : Int)] 93) := fun u ku => (ku.block w.heap.size (by simp)).trans (heap_alloc_new w _)
  have HB : Hid (∀ u, Kp (w.alloc (.cells #[.int .u64 (b.g : Int), .int .i64 (b.x : Int), .bool b.r, .bool b.q, .bool b.e, .int .i64 b.f, .int .i64 (b.l : Int)] 93)) u → u.heap[w.heap.size]? = some (.cells #[.int .u64 (b.g : Int), .int .i64 (b.x : Int), .bool b.r, .bool b.q, .bool b.e, .int .i64 b.f, .int .i64 (b.l : Int)] 93)) := hbl
  have c0' : ∀ u, Kp w u → u.cell? ⟨br, 0, none⟩ = some (.slice (some ⟨g, 0, none⟩) n cap) := fun u ku => by have := (h.kp ku).c0; rw [← hn] at this; exact this
  have HC : Hid (∀ u, Kp w u → u.cell? ⟨br, 0, none⟩ = some (.slice (some ⟨g, 0, none⟩) n cap)) := c0'
  have e0 := c0' _ (kb.trans ke)
  have e0b := c0' _ kb
  have H1 : Hid (RO w1 (.slice na1 n1 cap1) (L.take k ++ pgsV b 0) ∧ Kp (w.alloc (.cells #[.int .u64 (b.g : Int), .int .i64 (b.x : Int), .bool b.r, .bool b.q, .bool b.e, .int .i64 b.f, .int .i64 (b.l : Int)] 93)) w1 ∧ (∀ c, (Value.slice na1 n1 cap1).ownBlock = some c → (w.alloc (.cells #[.int .u64 (b.g : Int), .int .i64 (b.x : Int), .bool b.r, .bool b.q, .bool b.e, .int .i64 b.f, .int .i64 (b.l : Int)] 93)).heap.size ≤ c) ∧ Kp w (w.alloc (.cells #[.int .u64 (b.g : Int), .int .i64 (b.x : Int), .bool b.r, .bool b.q, .bool b.e, .int .i64 b.f, .int .i64 (b.l : Int)] 93))) := ⟨by rw [show pgsV b 0 = [] from rfl, List.append_nil]; exact o1, k1, b1, kb⟩
  clear es h hl hk h2 kn hok hc hn hcap kb ke hn1 o1 k1 b1 hbl c0' hgl
  go_enter Tryz.func77, Tryz.ntmps77
  repeat' (first | ((with_reducible refine wp_append_of r1 (.tmp 15) (.tmp 21) ?_ ?_ ?_ ?_ ?_); rfl; rfl; rfl; rfl) | go_values | go_skip | go_guarded | go_step | go_upon | go_back | (simp only []) | (go_values <;> (try go_simp)) | (go_ite <;> go_prune <;> (try go_simp)))
  clear r1 d0 d1 d2 d3 d4 d5 d6 e0 e0b c0
  generalize hw0 : w.alloc (.cells #[.int .u64 (b.g : Int), .int .i64 (b.x : Int), .bool b.r, .bool b.q, .bool b.e, .int .i64 b.f, .int .i64 (b.l : Int)] 93) = w0 at *
  clear hw0
  go_loopg [6, 7] 513 (fun gg v6 v7 wr => ∃ (i n2 cap2 : Nat) (na2 : Option Addr), v7 = .int .i64 (i : Int) ∧ v6 = .slice na2 n2 cap2 ∧ i ≤ 512 ∧ 513 - i ≤ gg ∧ Hid (RO wr (.slice na2 n2 cap2) (L.take k ++ pgsV b i) ∧ Kp w0 wr ∧ (∀ c, (Value.slice na2 n2 cap2).ownBlock = some c → w0.heap.size ≤ c)))
  case atStart => exact ⟨0, n1, cap1, na1, rfl, rfl, by omega, by omega, H1.out.1, H1.out.2.1, H1.out.2.2.1⟩
  case round =>
    obtain ⟨i, n2, cap2, na2, rfl, rfl, hi, hg, HI⟩ := hrel
    by_cases e : i < 512
    · obtain ⟨O2, K2, B2⟩ := HI.out
      have hr := HB.out _ K2
      have u0 : wr.cell? ⟨w.heap.size, 0, none⟩ = some (.int .u64 (b.g : Int)) := by rw [cell_of_row wr _ 0 _ _ _ hr]; rfl
      have u1 : wr.cell? ⟨w.heap.size, 1, none⟩ = some (.int .i64 (b.x : Int)) := by rw [cell_of_row wr _ 1 _ _ _ hr]; rfl
      have u2 : wr.cell? ⟨w.heap.size, 2, none⟩ = some (.bool b.r) := by rw [cell_of_row wr _ 2 _ _ _ hr]; rfl
      have u3 : wr.cell? ⟨w.heap.size, 3, none⟩ = some (.bool b.q) := by rw [cell_of_row wr _ 3 _ _ _ hr]; rfl
      have u4 : wr.cell? ⟨w.heap.size, 4, none⟩ = some (.bool b.e) := by rw [cell_of_row wr _ 4 _ _ _ hr]; rfl
      have u5 : wr.cell? ⟨w.heap.size, 5, none⟩ = some (.int .i64 b.f) := by rw [cell_of_row wr _ 5 _ _ _ hr]; rfl
      have ka : Kp wr (wr.alloc (.cells #[.int .u64 ((pgV b i).g : Int), .int .i64 ((pgV b i).x : Int), .bool (pgV b i).r, .bool (pgV b i).q, .bool (pgV b i).e, .int .i64 (pgV b i).f, .int .i64 ((pgV b i).l : Int)] 93)) := (Kp.refl _).alloc _
      obtain ⟨na3, n3, cap3, w3, r3, hn3, o3, k3, b3⟩ := leaf_append (W := w0) (O2.kp ka) (K2.trans ka) B2 [pgV b i] (one_src wr (pgV b i)) (by have := HH.out; simp only [List.length_append, List.length_take, List.length_nil, List.length_cons, pgsV, List.length_map, List.length_range]; omega) 67
      rw [List.append_assoc, ← pgsV_succ] at o3
      have u6 : ((b.g : Int) + (i : Int)) = ((pgV b i).g : Int) := by show _ = ((b.g + i : Nat) : Int); omega
      have u7 : ((b.x : Int) + (i : Int)) = ((pgV b i).x : Int) := by show _ = ((b.x + i : Nat) : Int); omega
      have z5 : ((pgV b i).g : Int) ≤ 268435967 := by have := HH.out; show ((b.g + i : Nat) : Int) ≤ _; omega
      have z6 : ((pgV b i).x : Int) ≤ 2100 := by have := HH.out; show ((b.x + i : Nat) : Int) ≤ _; omega
      have H3 : Hid (RO w3 (.slice na3 n3 cap3) (L.take k ++ pgsV b (i + 1)) ∧ Kp w0 w3 ∧ (∀ c, (Value.slice na3 n3 cap3).ownBlock = some c → w0.heap.size ≤ c)) := ⟨o3, k3, b3⟩
      have er : (pgV b i).r = b.r := rfl
      have eq : (pgV b i).q = b.q := rfl
      have ee : (pgV b i).e = b.e := rfl
      have ef : (pgV b i).f = b.f := rfl
      have el : (pgV b i).l = 3 := rfl
      rw [er, eq, ee, ef, el, show ((3 : Nat) : Int) = 3 from rfl] at r3
      have y3 : (i : Int) < 512 := by omega
      clear er eq ee ef el O2 K2 B2 hr ka hn3 o3 k3 b3 HI
      generalize (pgV b i).g = pg at *
      generalize (pgV b i).x = px at *
      repeat' (first | ((with_reducible refine wp_append_of r3 (.tmp 27) (.tmp 42) ?_ ?_ ?_ ?_ ?_); rfl; rfl; rfl; rfl) | go_values | go_skip | go_guarded | go_step | go_upon | go_back | (simp only []) | (go_values <;> (try go_simp)) | (go_ite <;> go_prune <;> (try go_simp)))
      go_roundg (513 - (i + 1))
      case measure => omega
      case rel => exact ⟨i + 1, n3, cap3, na3, by go_num, rfl, by omega, by omega, H3.out⟩
    · obtain rfl : i = 512 := by omega
      rw [show ((512 : Nat) : Int) = 512 from rfl]
      have y6 : (k : Int) + 1 ≤ cap := by have := HH.out; omega
      have y7 : (k : Int) + 1 ≤ n := by have := HH.out; omega
      have y11 : (k : Int) ≤ (k : Int) + 1 := by omega
      have y13 : (0 : Int) ≤ (k : Int) + 1 := by omega
      by_cases ec : cap = k + 1
      · have s3 := HH.out.1.ol.drop0 (k := k + 1) (by have := HH.out; omega)
        subst ec
        obtain rfl : n = k + 1 := by have := HH.out; omega
        have k3' := ((HI.out.2.1)).trans (Kp.refl _)
        have q0 := HC.out _ (H1.out.2.2.2.trans HI.out.2.1)
        obtain ⟨na4, n4, cap4, w4, r4, hn4, o4, k4, b4⟩ := leaf_append (W := w0) HI.out.1 HI.out.2.1 HI.out.2.2 (L.drop (k + 1)) (s3.kp (H1.out.2.2.2.trans HI.out.2.1)) (by have := HH.out; simp only [List.length_append, List.length_take, List.length_drop, pgsV, List.length_map, List.length_range]; omega) 67
        have HE : Hid (RO w4 (.slice na4 n4 cap4) (halvL L k b) ∧ (∀ c, (Value.slice na4 n4 cap4).ownBlock = some c → w.heap.size ≤ c) ∧ Kp w w4) := ⟨o4, fun c hc => Nat.le_trans H1.out.2.2.2.size (b4 c hc), H1.out.2.2.2.trans k4⟩
        clear hn4 o4 k4 b4 k3' HI s3
        repeat' (first | ((with_reducible refine wp_append_of r4 (.tmp 44) (.tmp 51) ?_ ?_ ?_ ?_ ?_); rfl; rfl; rfl; rfl) | go_values | go_skip | go_guarded | go_step | go_upon | go_back | (simp only []) | (go_values <;> (try go_simp)) | (go_ite <;> go_prune <;> (try go_simp)))
        go_ret
        exact ⟨⟨_, _, _, rfl, HE.out.1, HE.out.2.1⟩, HE.out.2.2⟩
      · have s3 := HH.out.1.ol.drop (k := k + 1) (by have := HH.out; omega)
        rw [← HH.out.2.1] at s3
        have y8 : ¬ cap = k + 1 := ec
        clear ec
        have k3' := ((HI.out.2.1)).trans (Kp.refl _)
        have q0 := HC.out _ (H1.out.2.2.2.trans HI.out.2.1)
        obtain ⟨na4, n4, cap4, w4, r4, hn4, o4, k4, b4⟩ := leaf_append (W := w0) HI.out.1 HI.out.2.1 HI.out.2.2 (L.drop (k + 1)) (s3.kp (H1.out.2.2.2.trans HI.out.2.1)) (by have := HH.out; simp only [List.length_append, List.length_take, List.length_drop, pgsV, List.length_map, List.length_range]; omega) 67
        have HE : Hid (RO w4 (.slice na4 n4 cap4) (halvL L k b) ∧ (∀ c, (Value.slice na4 n4 cap4).ownBlock = some c → w.heap.size ≤ c) ∧ Kp w w4) := ⟨o4, fun c hc => Nat.le_trans H1.out.2.2.2.size (b4 c hc), H1.out.2.2.2.trans k4⟩
        clear hn4 o4 k4 b4 k3' HI s3
        repeat' (first | ((with_reducible refine wp_append_of r4 (.tmp 44) (.tmp 51) ?_ ?_ ?_ ?_ ?_); rfl; rfl; rfl; rfl) | go_values | go_skip | go_guarded | go_step | go_upon | go_back | (simp only []) | (go_values <;> (try go_simp)) | (go_ite <;> go_prune <;> (try go_simp)))
        go_ret
        exact ⟨⟨_, _, _, rfl, HE.out.1, HE.out.2.1⟩, HE.out.2.2⟩
end Go.Proofs.YtanlcmdnhhdhaaaGreatDoor

/- The document's second stage: Split. -/
namespace Go.Proofs.YtanlcmdnhhdhaaaGreatDoor
open Go.RowKit
set_option maxRecDepth 10000

theorem at_some {L : List LV} {page : Nat} (h : 0 ≤ atI L page) : ∃ (k : Nat) (x : LV), L.findIdx? (hitL page) = some k ∧ L[k]? = some x ∧ hitL page x = true ∧ atI L page = (k : Int) := by
  unfold atI at h ⊢
  match hf : L.findIdx? (hitL page) with
  | none => rw [hf] at h; simp at h
  | some k =>
    obtain ⟨hk, hp, _⟩ := List.findIdx?_eq_some_iff_getElem.1 hf
    exact ⟨k, L[k], rfl, List.getElem?_eq_getElem hk, hp, rfl⟩
theorem at_neg {L : List LV} {page : Nat} (h : ¬ 0 ≤ atI L page) : atI L page = -1 ∧ L.findIdx? (hitL page) = none := by
  unfold atI at h ⊢
  match hf : L.findIdx? (hitL page) with
  | none => exact ⟨rfl, rfl⟩
  | some k => rw [hf] at h; exact absurd (Int.natCast_nonneg k) h
theorem mem_halv {L : List LV} {k : Nat} {b v : LV} (h : v ∈ halvL L k b) : v ∈ L ∨ ∃ i, i < 512 ∧ v = pgV b i := by
  unfold halvL pgsV at h
  simp only [List.mem_append, List.mem_map, List.mem_range] at h
  rcases h with (h | ⟨i, hi, rfl⟩) | h
  · exact .inl (List.mem_of_mem_take h)
  · exact .inr ⟨i, hi, rfl⟩
  · exact .inl (List.mem_of_mem_drop h)
theorem okL_halv {L : List LV} {k : Nat} {b : LV} (h : okL L) (hb : b ∈ L) (h2 : b.l = 2) : okL (halvL L k b) := fun v hv => by
  rcases mem_halv hv with c | ⟨i, hi, rfl⟩
  · exact h v c
  · have := (h b hb).2.2.2 h2
    exact ⟨.inr rfl, by show b.g + i < 268435968; omega, by show b.x + i < 2100; omega, fun c => by cases c⟩
theorem len_halv {L : List LV} {k : Nat} {b : LV} (hk : k < L.length) : (halvL L k b).length = L.length + 511 := by
  unfold halvL pgsV
  simp only [List.length_append, List.length_take, List.length_drop, List.length_map, List.length_range]
  omega
/-- What Split answers, and what it leaves. -/
def rsplR (gone : Bool) (L : List LV) (fr : Int) (page : Nat) : Int := if gone = true ∨ ¬ 0 ≤ atI L page then 23 else if lL L (atI L page).toNat = 3 then 20 else if fr < 1 then 11 else 0
def RSp (w w' : World) (br bf : Nat) (v : Value) (L : List LV) (fr : Int) (gone : Bool) (page : Nat) : Prop :=
  ∃ (k : Nat) (b : LV), L.findIdx? (hitL page) = some k ∧ L[k]? = some b ∧ b.l = 2 ∧ 1 ≤ fr ∧ (setB fr L (halvL L k b) = true → RN w w' br bf v (halvL L k b) (fr - ((tabL (halvL L k b) : Int) - (tabL L : Int))) gone) ∧ (setB fr L (halvL L k b) = false → RN w w' br bf v L fr gone)
set_option maxHeartbeats 8000000 in
theorem rsplit_any {w : World} {br bf : Nat} {v : Value} {L : List LV} {fr : Int} {gone : Bool} (h : RQ w br bf v L fr gone) (hl : L.length ≤ 900000) (page : Nat) (hp : page < 18446744073709551616) (hf : -1000000000 ≤ fr ∧ fr ≤ 1000000000) (rr : Int) (hrr : rr = rsplR gone L fr page) :
    Calls Tryz.prog 37 #[.pointer (some ⟨br, 0, none⟩), .int .u64 (page : Int)] w fun e w' => e = .returned (.int .i64 rr) ∧ Hid ((rr = 0 → RSp w w' br bf v L fr gone page) ∧ (rr ≠ 0 → RN w w' br bf v L fr gone)) := by
  obtain ⟨na, cap, rfl, _⟩ := h.slice
  have ka := rat_any h (by omega) page hp
  have c0 := h.c0
  have c1 := h.c1
  have c3 := h.c3
  have cf := h.cf
  have RW : Hid (RN w w br bf (.slice na L.length cap) L fr gone) := RN.same h (Kp.refl _)
  unfold rsplR at hrr
  by_cases g1 : gone = true
  · rw [if_pos (.inl g1)] at hrr
    have HE : Hid (rr = 23) := hrr
    subst g1
    generalize atI L page = k at *
    clear h hrr hp
    go_enter Tryz.func37, Tryz.ntmps37
    go_wp2_with fail
    with_reducible refine ka.mono ?_
    rintro e w' ⟨rfl, rfl⟩
    go_wp2_with fail
    go_ret
    exact ⟨by rw [HE.out]; rfl, fun c => (by rw [HE.out] at c; cases c), fun _ => RW.out⟩
  obtain rfl : gone = false := by simpa using g1
  by_cases g2 : 0 ≤ atI L page
  · rw [if_neg (fun c => c.elim g1 (fun c => c g2))] at hrr
    obtain ⟨k, b, f1, f2, _, f4⟩ := at_some g2
    rw [f4, Int.toNat_natCast, (gL_at f2).2] at hrr
    rw [f4] at ka
    obtain ⟨g, rfl, hgl, hc⟩ := h.ol.at f2
    have d6 := hc 6 _ rfl
    have kn := (List.getElem?_eq_some_iff.1 f2).1
    have hok := h.ok b (List.mem_of_getElem? f2)
    have y1 : (k : Int) < L.length := by omega
    have z1 : (b.l : Int) ≤ 3 := by omega
    by_cases g3 : b.l = 3
    · rw [if_pos g3] at hrr
      have HE : Hid (rr = 20) := hrr
      rw [g3] at d6
      rw [show ((3 : Nat) : Int) = 3 from rfl] at d6
      clear h hrr hp hc hok f1 f2 f4 g1 g2 g3 z1 kn
      go_enter Tryz.func37, Tryz.ntmps37
      go_wp2_with fail
      with_reducible refine ka.mono ?_
      rintro e w' ⟨rfl, rfl⟩
      go_wp2_with fail
      go_ret
      exact ⟨by rw [HE.out]; rfl, fun c => (by rw [HE.out] at c; cases c), fun _ => RW.out⟩
    · have g4 : b.l = 2 := by have := hok.1; omega
      rw [if_neg g3] at hrr
      rw [g4] at d6
      rw [show ((2 : Nat) : Int) = 2 from rfl] at d6
      by_cases g5 : fr < 1
      · rw [if_pos g5] at hrr
        have HE : Hid (rr = 11) := hrr
        clear h hrr hp hc hok f1 f2 f4 g1 g2 g3 g4 z1 kn
        go_enter Tryz.func37, Tryz.ntmps37
        go_wp2_with fail
        with_reducible refine ka.mono ?_
        rintro e w' ⟨rfl, rfl⟩
        go_wp2_with fail
        go_ret
        exact ⟨by rw [HE.out]; rfl, fun c => (by rw [HE.out] at c; cases c), fun _ => RW.out⟩
      · rw [if_neg g5] at hrr
        have HE : Hid (rr = 0) := hrr
        have kh := rhalves_any h hl f2 g4
        have okh := okL_halv (k := k) h.ok (List.mem_of_getElem? f2) g4
        have lh := len_halv (b := b) kn
        have KS : Aside (∀ v a n c, (RO v (.slice a n c) (halvL L k b) ∧ ∀ b', (Value.slice a n c).ownBlock = some b' → w.heap.size ≤ b') → Kp w v → Calls Tryz.prog 73 #[.pointer (some ⟨br, 0, none⟩), .slice a n c] v fun e w' => e = .returned (.bool (setB fr L (halvL L k b))) ∧ Hid ((setB fr L (halvL L k b) = true → RN w w' br bf (.slice (some ⟨g, 0, none⟩) L.length cap) (halvL L k b) (fr - ((tabL (halvL L k b) : Int) - (tabL L : Int))) false) ∧ (setB fr L (halvL L k b) = false → RN w w' br bf (.slice (some ⟨g, 0, none⟩) L.length cap) L fr false))) := fun v a n c o k' => rset_new h (by omega) k' o.1 okh (by omega) o.2 (by omega)
        have HF : Hid (L.findIdx? (hitL page) = some k ∧ L[k]? = some b ∧ b.l = 2 ∧ 1 ≤ fr) := ⟨f1, f2, g4, by omega⟩
        clear h hrr hp hc hok f1 f2 f4 g1 g2 g3 g4 z1 kn okh lh hl
        obtain ⟨sb, hsb⟩ : ∃ sb, sb = setB fr L (halvL L k b) := ⟨_, rfl⟩
        have KS' := KS
        rw [← hsb] at KS'
        have HSB : Hid (sb = setB fr L (halvL L k b)) := hsb
        clear KS hsb
        go_enter Tryz.func37, Tryz.ntmps37
        go_wp2_with fail
        with_reducible refine ka.mono ?_
        rintro e w' ⟨rfl, rfl⟩
        go_wp2_with fail
        with_reducible refine kh.mono ?_
        rintro e w1 ⟨⟨a1, n1, p1, rfl, O1⟩, K1⟩
        have ks := KS'.out _ _ _ _ O1.out K1
        clear kh ka KS' O1 K1 d6 c0 c1 c3 cf
        go_wp2_with fail
        with_reducible refine ks.mono ?_
        rintro e w2 ⟨rfl, S2⟩
        clear ks
        go_wp2_with fail
        go_ret
        obtain ⟨a1, a2, a3, a4⟩ := HF.out
        have e2 := S2.out
        rw [HSB.out] at e2
        exact ⟨by rw [HE.out]; rfl, fun _ => ⟨k, b, a1, a2, a3, a4, e2.1, e2.2⟩, fun c => absurd HE.out c⟩
  · rw [if_pos (.inr g2)] at hrr
    have HE : Hid (rr = 23) := hrr
    rw [(at_neg g2).1] at ka
    clear h hrr hp g1 g2
    go_enter Tryz.func37, Tryz.ntmps37
    go_wp2_with fail
    with_reducible refine ka.mono ?_
    rintro e w' ⟨rfl, rfl⟩
    go_wp2_with fail
    go_ret
    exact ⟨by rw [HE.out]; rfl, fun c => (by rw [HE.out] at c; cases c), fun _ => RW.out⟩
end Go.Proofs.YtanlcmdnhhdhaaaGreatDoor
