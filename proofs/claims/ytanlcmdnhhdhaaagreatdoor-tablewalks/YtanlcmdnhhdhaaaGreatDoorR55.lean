/- The document's second stage: MapBlock. -/
import Derived.Test.YtanlcmdnhhdhaaaGreatDoorJ35
namespace Go.Proofs.YtanlcmdnhhdhaaaGreatDoor
open Go.RowKit
set_option maxRecDepth 10000

/-- Is a page of the block mapped? -/
def anyB (L : List LV) (page : Nat) : Bool := L.any (fun z => z.g / 512 * 512 == page)
def nbB (L : List LV) (page i : Nat) : Prop := ∀ (j : Nat) (z : LV), j < i → L[j]? = some z → z.g / 512 * 512 ≠ page
theorem nbB_zero (L : List LV) (page : Nat) : nbB L page 0 := fun j _ hj => absurd hj (Nat.not_lt_zero j)
theorem nbB_succ {L : List LV} {page i : Nat} {z : LV} (h : nbB L page i) (hz : L[i]? = some z) (hn : z.g / 512 * 512 ≠ page) : nbB L page (i + 1) := fun j z' hj hz' => by
  by_cases ej : j = i
  · subst ej; rw [hz] at hz'; cases hz'; exact hn
  · exact h j z' (by omega) hz'
def rmapbR (gone : Bool) (L : List LV) (fr : Int) (page : Nat) (f : Int) (x : LV) (r q : Bool) (s : Int) : Int := if gone = true then 23 else if badN page (decide (0 ≤ f) && decide (f ≤ 1588)) r q s ≠ 0 then badN page (decide (0 ≤ f) && decide (f ≤ 1588)) r q s else if page % 512 ≠ 0 ∨ f % 512 ≠ 0 then 3 else if anyB L page = true then 22 else if setB fr L (withL L x) = true then 0 else 11
set_option maxHeartbeats 8000000 in
theorem rmapb_any {w : World} {br bf : Nat} {v : Value} {L : List LV} {fr : Int} {gone : Bool} (h : RQ w br bf v L fr gone) (hl : L.length ≤ 900000) (page : Nat) (f : Int) (r q x : Bool) (s : Int) (hf : -1000000000 ≤ fr ∧ fr ≤ 1000000000) (y : LV) (hy : y = ⟨page, f.toNat, r, q, x, s, 2⟩) (rr : Int) (hrr : rr = rmapbR gone L fr page f y r q s) :
    Calls Tryz.prog 32 #[.pointer (some ⟨br, 0, none⟩), .int .u64 (page : Int), .int .i64 f, .agg #[.bool r, .bool q, .bool x], .int .i64 s] w fun e w' => e = .returned (.int .i64 rr) ∧ Hid ((rr = 0 → RN w w' br bf v (withL L y) (fr - ((tabL (withL L y) : Int) - (tabL L : Int))) gone) ∧ (rr ≠ 0 → RN w w' br bf v L fr gone)) := by
  obtain ⟨na, cap, rfl, _⟩ := h.slice
  have HR : Hid (rr = rmapbR gone L fr page f y r q s) := hrr
  obtain ⟨w1, hw1⟩ : ∃ w1, w1 = w.alloc (.cells #[.bool r, .bool q, .bool x] 39) := ⟨_, rfl⟩
  have k1 : Kp w w1 := by rw [hw1]; exact (Kp.refl w).alloc _
  have P1 : PX w1 w.heap.size r q x := by rw [hw1]; exact PX.made w r q x
  have h1 := h.kp k1
  have c3 := h1.c3
  have RS : Hid (∀ u, Kp w u → RN w u br bf (.slice na L.length cap) L fr gone) := fun u k => RN.same h k
  by_cases g1 : gone = true
  · have HE : Hid (rr = 23) := by show rr = 23; rw [HR.out]; unfold rmapbR; rw [if_pos g1]
    subst g1
    rw [hw1] at c3
    have HK : Hid (Kp w (w.alloc (.cells #[.bool r, .bool q, .bool x] 39))) := by rw [← hw1]; exact k1
    clear h h1 hrr HR P1 k1 hw1
    go_enter Tryz.func32, Tryz.ntmps32
    go_wp2_with fail
    go_ret
    exact ⟨by rw [HE.out]; rfl, fun c => (by rw [HE.out] at c; cases c), fun _ => RS.out _ HK.out⟩
  obtain rfl : gone = false := by simpa using g1
  obtain ⟨fs, hfs⟩ : ∃ fs, fs = (decide (0 ≤ f) && decide (f ≤ 1588)) := ⟨_, rfl⟩
  obtain ⟨bd, hbd⟩ : ∃ bd, bd = badN page fs r q s := ⟨_, rfl⟩
  have KB : Aside (∀ P : KeptBy w1, Calls Tryz.prog 71 #[.int .u64 (page : Int), .bool fs, .agg #[.bool r, .bool q, .bool x], .int .i64 s] P.v fun e w' => e = .returned (.int .i64 bd) ∧ Kp P.v w') := fun P => by rw [hbd]; exact rbad_any page fs r q x s P.v
  have x2 : ∀ P : KeptBy w1, P.v.cell? ⟨br, 2, none⟩ = some (.int .i64 2100) := fun P => (h1.kp P.k).c2
  have u0 : ∀ P : KeptBy w1, P.v.cell? ⟨w.heap.size, 0, none⟩ = some (.bool r) := fun P => (P1.kp P.k).c0
  have u1 : ∀ P : KeptBy w1, P.v.cell? ⟨w.heap.size, 1, none⟩ = some (.bool q) := fun P => (P1.kp P.k).c1
  have u2 : ∀ P : KeptBy w1, P.v.cell? ⟨w.heap.size, 2, none⟩ = some (.bool x) := fun P => (P1.kp P.k).c2
  have NE : Nonempty (KeptBy w1) := KeptBy.some
  have HB : Hid (∀ P : KeptBy w1, P.v.cell? ⟨w.heap.size, 0, none⟩ = some (.bool r) ∧ P.v.cell? ⟨w.heap.size, 1, none⟩ = some (.bool q) ∧ P.v.cell? ⟨w.heap.size, 2, none⟩ = some (.bool x) ∧ P.v.cell? ⟨br, 0, none⟩ = some (.slice na L.length cap) ∧ Kp w P.v) := fun P => ⟨u0 P, u1 P, u2 P, (h1.kp P.k).c0, k1.trans P.k⟩
  have HH : Hid (RQ w br bf (.slice na L.length cap) L fr false ∧ L.length ≤ 900000 ∧ (-1000000000 ≤ fr ∧ fr ≤ 1000000000) ∧ bd = badN page fs r q s ∧ fs = (decide (0 ≤ f) && decide (f ≤ 1588)) ∧ rr = rmapbR false L fr page f y r q s ∧ y = ⟨page, f.toNat, r, q, x, s, 2⟩) := ⟨h, hl, hf, hbd, hfs, hrr, hy⟩
  have hgd : (decide (0 ≤ f) = true ∧ fs = decide (f ≤ 1588)) ∨ (decide (0 ≤ f) = false ∧ fs = false) := by
    by_cases c : 0 ≤ f
    · exact .inl ⟨decide_eq_true c, by rw [hfs, decide_eq_true c, Bool.true_and]⟩
    · exact .inr ⟨decide_eq_false c, by rw [hfs, decide_eq_false c, Bool.false_and]⟩
  clear h h1 hrr HR P1 g1 hfs hbd hy hf hl k1
  rcases hgd with ⟨g2, rfl⟩ | ⟨g2, rfl⟩
  · go_enter Tryz.func32, Tryz.ntmps32
    rw [hw1] at c3
    go_wp2_with fail
    rw [← hw1]
    refine wp_region_kept mixed (by kernel_rfl) ?_
    repeat (go_big_quiet_step (first | exact rfl | (go_at_call 71; with_reducible refine Calls.kept_of (KB.out _))))
    refine wpQuiet_nil ?_
    intro _ hw'
    obtain ⟨⟨wq, kq⟩, hw''⟩ := hw'
    subst hw''
    rename_i w2
    have p0 : w2.cell? ⟨w.heap.size, 0, none⟩ = some (.bool r) := (HB.out ⟨w2, kq⟩).1
    have p1 : w2.cell? ⟨w.heap.size, 1, none⟩ = some (.bool q) := (HB.out ⟨w2, kq⟩).2.1
    have p2 : w2.cell? ⟨w.heap.size, 2, none⟩ = some (.bool x) := (HB.out ⟨w2, kq⟩).2.2.1
    have c0 : w2.cell? ⟨br, 0, none⟩ = some (.slice na L.length cap) := (HB.out ⟨w2, kq⟩).2.2.2.1
    have kw : Kp w w2 := (HB.out ⟨w2, kq⟩).2.2.2.2
    have RW : Hid (RN w w2 br bf (.slice na L.length cap) L fr false) := RS.out _ kw
    have HW : Hid (Kp w w2) := kw
    clear x2 u0 u1 u2 NE KB HB kq hw1 c3 RS kw
    by_cases c1 : bd = 0
    · obtain ⟨h, hl, hf, a1, a2, a3, a4⟩ := HH.out
      have er : rr = if page % 512 ≠ 0 ∨ f % 512 ≠ 0 then 3 else if anyB L page = true then 22 else if setB fr L (withL L y) = true then 0 else 11 := by
        rw [a3]; unfold rmapbR; rw [if_neg (by decide), ← a2, ← a1, if_neg (fun c => c c1)]
      have pg : page < 268435456 ∧ f ≤ 1588 := by
        rw [c1] at a1
        unfold badN at a1
        by_cases c : 268435456 ≤ page ∨ decide (f ≤ 1588) = false
        · rw [if_pos c] at a1; cases a1
        · refine ⟨?_, ?_⟩
          · exact Decidable.byContradiction fun c' => c (.inl (by omega))
          · exact Decidable.byContradiction fun c' => c (.inr (decide_eq_false c'))
      have y0 : 0 ≤ f := of_decide_eq_true g2
      obtain ⟨fn, rfl⟩ : ∃ fn : Nat, f = (fn : Int) := ⟨f.toNat, by omega⟩
      rw [Int.toNat_natCast] at a4
      have oky : okL (withL L y) := okL_with h.ok (by rw [a4]; exact ⟨.inl rfl, by show page < 268435968; omega, by show fn < 2100; omega, fun _ => ⟨by show fn + 511 < 2100; omega, by show page ≤ 268435456; omega⟩⟩)
      have lw := len_with L y
      have KW : Aside (∀ v, Kp w2 v → Calls Tryz.prog 74 #[.slice na L.length cap, .agg #[.int .u64 (page : Int), .int .i64 (fn : Int), .bool r, .bool q, .bool x, .int .i64 s, .int .i64 2]] v fun e w' => (∃ na' n' cap', e = .returned (.slice na' n' cap') ∧ Hid (RO w' (.slice na' n' cap') (withL L y) ∧ (∀ b, (Value.slice na' n' cap').ownBlock = some b → w.heap.size ≤ b) ∧ Kp w w')) ∧ Kp v w') := fun v k' => by
        have := rwith_any (h.kp (HW.out.trans k')).ol (by omega) y
        rw [a4] at this ⊢
        exact this.mono fun e w' ⟨⟨a, b, c, e1, e2⟩, e3⟩ => ⟨⟨a, b, c, e1, e2.out.1, fun b' hb' => Nat.le_trans (HW.out.trans k').size (e2.out.2 b' hb'), (HW.out.trans k').trans e3⟩, e3⟩
      have KS : Aside (∀ v a b c, (RO v (.slice a b c) (withL L y) ∧ (∀ b', (Value.slice a b c).ownBlock = some b' → w.heap.size ≤ b') ∧ Kp w v) → Calls Tryz.prog 73 #[.pointer (some ⟨br, 0, none⟩), .slice a b c] v fun e w' => e = .returned (.bool (setB fr L (withL L y))) ∧ Hid ((setB fr L (withL L y) = true → RN w w' br bf (.slice na L.length cap) (withL L y) (fr - ((tabL (withL L y) : Int) - (tabL L : Int))) false) ∧ (setB fr L (withL L y) = false → RN w w' br bf (.slice na L.length cap) L fr false))) := fun v a b c ⟨o1, o2, o3⟩ => rset_new h (by omega) o3 o1 oky (by omega) o2 (by omega)
      obtain ⟨sb, hsb⟩ : ∃ sb, sb = setB fr L (withL L y) := ⟨_, rfl⟩
      rw [← hsb] at KS er
      subst c1
      have HQ : Hid (RQ w2 br bf (.slice na L.length cap) L fr false ∧ L.length ≤ 900000) := ⟨h.kp HW.out, hl⟩
      clear h hf a1 a2 a3 a4 hsb oky lw HH y0
      have z9 : (fn : Int) ≤ 1588 := pg.2
      by_cases d1 : page % 512 = 0
      · have b1 : (page : Int) % 512 = 0 := by omega
        by_cases d2 : fn % 512 = 0
        · have b2 : (fn : Int).tmod 512 = 0 := by rw [Int.tmod_eq_emod_of_nonneg (by omega)]; omega
          rw [if_neg (by omega)] at er
          have HE : Hid (rr = if anyB L page = true then 22 else if sb = true then 0 else 11) := er
          have z0 : (L.length : Int) ≤ 900000 := by omega
          clear er d1 d2 pg hl
          obtain ⟨n, hn⟩ : ∃ n, n = L.length := ⟨_, rfl⟩
          rw [← hn] at c0 z0
          have HN : Hid (n = L.length) := hn
          have KW' := KW
          rw [← hn] at KW'
          clear KW hn
          go_wp2_with fail
          simp only [b1, show decide ((fn : Int) ≤ 1588) = true from decide_eq_true z9]
          clear b1 b2 z9
          go_loopg [12] (n + 1) (fun gg v12 wr => ∃ i : Nat, v12 = .int .i64 (i : Int) ∧ i ≤ n ∧ n + 1 - i ≤ gg ∧ wr = w2 ∧ Hid (nbB L page i))
          case atStart => exact ⟨0, rfl, by omega, by omega, rfl, nbB_zero L page⟩
          case round =>
            obtain ⟨i, rfl, hi, hg, rfl, HI⟩ := hrel
            by_cases e : i < n
            · obtain ⟨z, hz⟩ : ∃ z, L[i]? = some z := ⟨_, List.getElem?_eq_getElem (by have := HN.out; omega)⟩
              obtain ⟨g, rfl, _, hc⟩ := HQ.out.1.ol.at hz
              have d0 : wr.cell? ⟨g, i * 7, none⟩ = some (.int .u64 (z.g : Int)) := hc 0 _ rfl
              have hzk := (HQ.out.1.ok z (List.mem_of_getElem? hz)).2.1
              have ha := andn_511 z.g (by omega)
              have y1 : (i : Int) < n := by omega
              obtain ⟨gz, hgz⟩ : ∃ gz, gz = z.g := ⟨_, rfl⟩
              obtain ⟨pf, hpf⟩ : ∃ pf, pf = z.g / 512 * 512 := ⟨_, rfl⟩
              rw [← hpf] at ha
              rw [← hgz] at ha d0
              by_cases c2 : pf = page
              · have HE2 : Hid (rr = 22) := by
                  show rr = 22
                  rw [HE.out, if_pos]
                  unfold anyB
                  rw [List.any_eq_true]
                  exact ⟨z, List.mem_of_getElem? hz, by rw [← hpf, c2]; simp⟩
                have y2 := beq_nat_t c2
                clear hc hz hzk hgz hpf c2 HE KS KW'
                go_wp2_with fail
                go_ret
                exact ⟨by rw [HE2.out]; rfl, fun c => (by rw [HE2.out] at c; cases c), fun _ => RW.out⟩
              · have HI2 : Hid (nbB L page (i + 1)) := nbB_succ HI.out hz (by rw [← hpf]; exact c2)
                have y2 := beq_nat_f c2
                have y2' : decide ((pf : Int) = (page : Int)) = false := decide_eq_false (by omega)
                clear hc hz hzk hgz hpf c2 HI
                go_wp2_with fail
                go_roundg (n + 1 - (i + 1))
                case measure => omega
                case rel => exact ⟨i + 1, by go_num, by omega, by omega, rfl, HI2⟩
            · have y1 : ¬ (i : Int) < n := by omega
              have HE2 : Hid (rr = if sb = true then 0 else 11) := by
                show rr = _
                rw [HE.out, if_neg]
                unfold anyB
                rw [List.any_eq_true]
                rintro ⟨z, hz, c⟩
                obtain ⟨j, hj, rfl⟩ := List.mem_iff_getElem.1 hz
                exact HI.out j _ (by have := HN.out; omega) (List.getElem?_eq_getElem hj) (by simpa using c)
              clear HE HI
              go_wp2_with fail
              go_region_with (first | (go_at_call 74; with_reducible refine (KW'.out _ (by first | exact Kp.refl _ | exact (Kp.refl _).drew | exact (Kp.refl _).drewN _)).mono ?_; rintro e w3 ⟨⟨a1, n1, p1, rfl, O1⟩, K3⟩) | (go_at_call 73; with_reducible refine (KS.out _ _ _ _ O1.out).mono ?_; rintro e w4 ⟨rfl, S4⟩))
              all_goals
                clear KW' KS O1 K3
                cases sb
                · have HE' : Hid (rr = 11) := HE2.out
                  go_wp2_with fail
                  go_ret
                  exact ⟨by rw [HE'.out]; rfl, fun c => (by rw [HE'.out] at c; cases c), fun _ => S4.out.2 trivial⟩
                · have HE' : Hid (rr = 0) := HE2.out
                  go_wp2_with fail
                  go_ret
                  exact ⟨by rw [HE'.out]; rfl, fun _ => S4.out.1 trivial, fun c => absurd HE'.out c⟩
        · obtain ⟨m5, hm5⟩ : ∃ m5, m5 = fn % 512 := ⟨_, rfl⟩
          have b2 : (fn : Int).tmod 512 = (m5 : Int) := by rw [Int.tmod_eq_emod_of_nonneg (by omega)]; omega
          have b3 : ((m5 : Int) == 0) = false := by rw [beq_eq_false_iff_ne]; omega
          have b4 : ((m5 : Int) != 0) = true := by rw [bne_iff_ne]; omega
          have b5 : decide ((m5 : Int) = 0) = false := decide_eq_false (by omega)
          have b6 : decide (m5 = 0) = false := decide_eq_false (by omega)
          have b7 : ¬ m5 = 0 := by omega
          rw [if_pos (.inr (by omega))] at er
          have HE : Hid (rr = 3) := er
          clear er d1 d2 pg hl KW KS hm5
          go_wp2_with fail
          go_ret
          exact ⟨by rw [HE.out]; rfl, fun c => (by rw [HE.out] at c; cases c), fun _ => RW.out⟩
      · have b1 : (page : Int) % 512 ≠ 0 := by omega
        have b3 : ((page : Int) % 512 == 0) = false := by simpa using b1
        have b4 : ((page : Int) % 512 != 0) = true := by simpa using b1
        rw [if_pos (.inl d1)] at er
        have HE : Hid (rr = 3) := er
        clear er d1 pg hl KW KS
        go_wp2_with fail
        go_ret
        exact ⟨by rw [HE.out]; rfl, fun c => (by rw [HE.out] at c; cases c), fun _ => RW.out⟩
    · have HE : Hid (rr = bd ∧ bd ≠ 0) := ⟨by obtain ⟨_, _, _, a1, a2, a3, _⟩ := HH.out; rw [a3]; unfold rmapbR; rw [if_neg (by decide), ← a2, ← a1, if_pos c1], c1⟩
      have y1 : (bd == 0) = false := by rw [beq_eq_false_iff_ne]; exact c1
      have y2 : (bd != 0) = true := by rw [bne_iff_ne]; exact c1
      have y3 : decide (bd = 0) = false := decide_eq_false c1
      go_wp2_with fail
      go_ret
      exact ⟨by rw [HE.out.1]; rfl, fun c => absurd (HE.out.1 ▸ c) HE.out.2, fun _ => RW.out⟩
  · go_enter Tryz.func32, Tryz.ntmps32
    rw [hw1] at c3
    go_wp2_with fail
    rw [← hw1]
    refine wp_region_kept mixed (by kernel_rfl) ?_
    repeat (go_big_quiet_step (first | exact rfl | (go_at_call 71; with_reducible refine Calls.kept_of (KB.out _))))
    refine wpQuiet_nil ?_
    intro _ hw'
    obtain ⟨⟨wq, kq⟩, hw''⟩ := hw'
    subst hw''
    rename_i w2
    have p0 : w2.cell? ⟨w.heap.size, 0, none⟩ = some (.bool r) := (HB.out ⟨w2, kq⟩).1
    have p1 : w2.cell? ⟨w.heap.size, 1, none⟩ = some (.bool q) := (HB.out ⟨w2, kq⟩).2.1
    have p2 : w2.cell? ⟨w.heap.size, 2, none⟩ = some (.bool x) := (HB.out ⟨w2, kq⟩).2.2.1
    have c0 : w2.cell? ⟨br, 0, none⟩ = some (.slice na L.length cap) := (HB.out ⟨w2, kq⟩).2.2.2.1
    have kw : Kp w w2 := (HB.out ⟨w2, kq⟩).2.2.2.2
    have RW : Hid (RN w w2 br bf (.slice na L.length cap) L fr false) := RS.out _ kw
    have HW : Hid (Kp w w2) := kw
    clear x2 u0 u1 u2 NE KB HB kq hw1 c3 RS kw
    by_cases c1 : bd = 0
    · exfalso
      obtain ⟨_, _, _, a1, _⟩ := HH.out
      rw [c1] at a1
      unfold badN at a1
      rw [if_pos (.inr rfl)] at a1
      cases a1
    · have HE : Hid (rr = bd ∧ bd ≠ 0) := ⟨by obtain ⟨_, _, _, a1, a2, a3, _⟩ := HH.out; rw [a3]; unfold rmapbR; rw [if_neg (by decide), ← a2, ← a1, if_pos c1], c1⟩
      have y1 : (bd == 0) = false := by rw [beq_eq_false_iff_ne]; exact c1
      have y2 : (bd != 0) = true := by rw [bne_iff_ne]; exact c1
      have y3 : decide (bd = 0) = false := decide_eq_false c1
      go_wp2_with fail
      go_ret
      exact ⟨by rw [HE.out.1]; rfl, fun c => absurd (HE.out.1 ▸ c) HE.out.2, fun _ => RW.out⟩
end Go.Proofs.YtanlcmdnhhdhaaaGreatDoor
