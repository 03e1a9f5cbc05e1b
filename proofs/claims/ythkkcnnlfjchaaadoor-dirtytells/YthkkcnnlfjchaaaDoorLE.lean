/- DirtyTells. -/
import Derived.Test.YthkkcnnlfjchaaaDoorLD
import Derived.Deep.DeepCutAuto
import Derived.Deep.CutBlock
namespace Go.Proofs.YthkkcnnlfjchaaaDoor
open Go.RowKit Go.Maps
set_option maxRecDepth 10000

set_option maxHeartbeats 32000000 in
theorem tells19_any (na : Option Addr) (len cap : Nat) (f : Nat → Int) (mb : Option Addr) (ml mcap : Nat) (nb : Nat → Bool) (a : Int) (w : World) (NI : NSK .u64 w na len f) (NB : NS w mb ml nb) (T : TAB w) :
    Calls Tryd.prog 4 #[.slice na len cap, .slice mb ml mcap, .int .i64 a] w fun e w' => e = .returned (.bool true) ∧ Kp w w' := by
  have cn := LGo.new w
  obtain ⟨n, hn1, hn2, hn3⟩ : ∃ n : Nat, (if (80 : Int) < (len : Int) then (80 : Int) else (len : Int)) = (n : Int) ∧ n ≤ 80 ∧ n ≤ len := by
    by_cases c : 80 < len
    · exact ⟨80, by rw [if_pos (by omega)]; rfl, by omega, by omega⟩
    · exact ⟨len, by rw [if_neg (by omega)], by omega, by omega⟩
  obtain ⟨at0, ha0, ha2⟩ := and_lim a 63 (by decide)
  have ha1 : bits .and .i64 a 63 = (at0 : Int) := ha0
  clear ha0
  have hn0 : min (len : Int) 80 = (n : Int) := by omega
  have HI : Hid (NSK .u64 w na len f ∧ NS w mb ml nb ∧ TAB w ∧ n ≤ 80 ∧ n ≤ len) := ⟨NI, NB, T, hn2, hn3⟩
  have bn : (n : Int) ≤ 80 := by omega
  have Hat := hid_as ha2
  clear NI NB T hn2 hn3 ha2
  go_enter Tryd.func4, Tryd.ntmps4
  go_wp2_with fail
  with_reducible refine cn.mono ?_
  rintro e w1 ⟨p, rfl, h1⟩
  clear cn
  have C1 := h1.start
  clear h1
  go_wp2_with fail
  with_reducible refine C1.mono ?_
  rintro e w2 ⟨rfl, h2⟩
  have H2 : Hid (TLs w w2 p n (lwN f) (fgB ml nb) 0 0) := TLs.start h2
  clear C1 h2
  go_upto_block 0 with fail
  go_cut [9] (fun v9 wx => ∃ fr : Nat, v9 = .int .i64 (fr : Int) ∧ fr ≤ n ∧ Hid (TLs w wx p n (lwN f) (fgB ml nb) fr n))
  case first =>
    go_wp2_with fail
    go_loopg [9, 10] (n + 1) (fun gg v9 vi wr => ∃ (fr i : Nat), v9 = .int .i64 (fr : Int) ∧ vi = .int .i64 (i : Int) ∧ i ≤ n ∧ fr ≤ i ∧ n + 1 - i ≤ gg ∧ Hid (TLs w wr p n (lwN f) (fgB ml nb) fr i))
    case atStart => exact ⟨0, 0, rfl, rfl, by omega, by omega, by omega, H2⟩
    case round =>
      clear H2
      obtain ⟨fr, i, rfl, rfl, hi, hfi, hg, HT⟩ := hrel
      by_cases hlt : i < n
      · have z1 : (i : Int) < (n : Int) := by omega
        have z2 : (i : Int) < (len : Int) := by have := HI.out; omega
        obtain ⟨b, s, rfl, hb, hc, hx⟩ := HI.out.1.wat (show i < len by omega)
        obtain ⟨h, hh⟩ : ∃ h, h = i / 2 := ⟨_, rfl⟩
        obtain ⟨b', s', e0, _, hc2, hy⟩ := HI.out.1.wat (show h < len by omega)
        cases e0
        have zh : (i : Int).tdiv 2 = (h : Int) := by rw [Int.tdiv_eq_ediv_of_nonneg (by omega)]; omega
        have zh3 : (i : Int) / 2 = (h : Int) := by omega
        have zh2 : (h : Int) < (len : Int) := by omega
        have HB : Hid (b < w.heap.size ∧ h = i / 2 ∧ h ≤ i) := ⟨hb, hh, by omega⟩
        obtain ⟨Wd, o, lg, ho, hs⟩ := HT.out.ex
        have HS : Hid (∀ q, hasW Wd q = SNt (lwN f) (fgB ml nb) fr i q) := hs
        have Ho : Hid (o ≤ i ∧ i ≤ n ∧ fr ≤ i) := ⟨ho, hi, hfi⟩
        obtain ⟨x, hxe⟩ : ∃ x, x = lwN f i := ⟨_, rfl⟩
        obtain ⟨y, hye⟩ : ∃ y, y = lwN f h := ⟨_, rfl⟩
        have HXY : Hid (x = lwN f i ∧ y = lwN f h ∧ x < 18446744073709551616 ∧ y < 18446744073709551616) := ⟨hxe, hye, by rw [hxe]; exact hx, by rw [hye]; exact hy⟩
        rw [← hxe] at hc
        rw [← hye] at hc2
        have HC : Hid (w.cell? ⟨b, s + i, none⟩ = some (.int .u64 (x : Int)) ∧ w.cell? ⟨b, s + h, none⟩ = some (.int .u64 (y : Int))) := ⟨hc, hc2⟩
        have c1 := (lg.k.cell (p := ⟨b, s + i, none⟩) hb).trans hc
        have C1 := lg.note x HXY.out.2.2.1 (by have := HI.out; omega)
        clear hb hc hc2 hx hy hh hxe hye lg hs ho HT
        go_wp2_with fail
        with_reducible refine C1.mono ?_
        rintro e w3 ⟨rfl, h3⟩
        have H3 : Hid (LGo w w3 p true (addB Wd x) (o + 1)) := h3
        clear C1 c1 h3
        obtain ⟨fgi, hfg⟩ : ∃ g, fgB ml nb i = g := ⟨_, rfl⟩
        have HG := hid_as hfg
        clear hfg
        go_upto_region 10 with fail
        go_cut [52] (fun v wx => v = .bool fgi ∧ Hid (LGo w wx p true (addB Wd x) (o + 1)))
        case first =>
          by_cases him : i < ml
          · have z3 : (i : Int) < (ml : Int) := by omega
            obtain ⟨b2, s2, rfl, hb2, hc2⟩ := HI.out.2.1 i him
            have c2 := (H3.out.k.cell (p := ⟨b2, s2 + i, none⟩) hb2).trans hc2
            have eg : Hid (nb i = fgi) := by
              show nb i = fgi
              rw [← HG.out]
              unfold fgB
              rw [decide_eq_true him, Bool.true_and]
            generalize nb i = bi at *
            clear hb2 hc2
            go_wp2_with fail
            go_meet
            exact ⟨by rw [eg.out], H3⟩
          · have z3 : ¬ (i : Int) < (ml : Int) := by omega
            have eg : Hid (fgi = false) := by
              show fgi = false
              rw [← HG.out]
              unfold fgB
              rw [decide_eq_false him, Bool.false_and]
            go_wp2_with fail
            go_meet
            exact ⟨by rw [eg.out], H3⟩
        case rest =>
          clear H3
          obtain ⟨rfl, H3⟩ := hcut
          go_upto_if 52 with fail
          go_cut [] (fun wx => Hid (∃ W o, LGo w wx p true W o ∧ o ≤ i + 1 ∧ ∀ q, hasW W q = SNt (lwN f) (fgB ml nb) fr (i + 1) q))
          case first =>
            cases fgi with
            | true =>
              have c2 := (H3.out.k.cell (p := ⟨b, s + h, none⟩) HB.out.1).trans HC.out.2
              have C1 := H3.out.forget y HXY.out.2.2.2 (by have := HI.out; have := Ho.out; omega)
              obtain ⟨r, hr⟩ : ∃ r, hasW (addB Wd x) y = r := ⟨_, rfl⟩
              rw [hr] at C1
              have Hr := hid_as hr
              have HQ : Hid (∀ wx, LGo w wx p true (delB (addB Wd x) y) (o + 1) → ∃ W o, LGo w wx p true W o ∧ o ≤ i + 1 ∧ ∀ q, hasW W q = SNt (lwN f) (fgB ml nb) fr (i + 1) q) := fun wx hx => by
                refine ⟨_, _, hx, by have := Ho.out; omega, fun q => ?_⟩
                rw [hasW_del, hasW_add, SNt_on Ho.out.2.2, HG.out, HS.out q, ← HXY.out.1, ← HB.out.2.1, ← HXY.out.2.1, Bool.true_and, Bool.or_comm]
              clear hr
              go_wp2_with fail
              with_reducible refine C1.mono ?_
              rintro e w4 ⟨rfl, h4⟩
              have H4 := hid_as (HQ.out w4 h4)
              clear C1 c2 h4
              cases r with
              | true =>
                go_wp2_with fail
                go_meet
                exact H4
              | false =>
                have HNE : Hid ((fr : Int) ≤ (h : Int) → ((i : Int) == (fr : Int)) = false) := fun hle => by
                  have h1 := HB.out
                  have h2 := Ho.out
                  rw [beq_eq_false_iff_ne]
                  intro hc
                  have e : h = i := by omega
                  have e2 : y = x := by rw [HXY.out.1, HXY.out.2.1, e]
                  have := Hr.out
                  rw [e2, hasW_add] at this
                  simp at this
                by_cases hle : (fr : Int) ≤ (h : Int)
                · have y3 := HNE.out hle
                  go_wp2_with fail
                  go_meet
                  exact H4
                · go_wp2_with fail
                  go_meet
                  exact H4
            | false =>
              have HQ : Hid (∃ W o, LGo w wc p true W o ∧ o ≤ i + 1 ∧ ∀ q, hasW W q = SNt (lwN f) (fgB ml nb) fr (i + 1) q) := by
                refine ⟨_, _, H3.out, by have := Ho.out; omega, fun q => ?_⟩
                rw [hasW_add, SNt_on Ho.out.2.2, HG.out, HS.out q, ← HXY.out.1, Bool.false_and, Bool.or_comm]
                simp
              go_wp2_with fail
              go_meet
              exact HQ
          case rest =>
            clear H3
            have H4 := hcut
            clear hcut
            by_cases hat : i = at0
            · have y4 : ((i : Int) == (at0 : Int)) = true := by rw [hat]; simp
              obtain ⟨W5, o5, lg, ho5, _⟩ := H4.out
              have C1 := lg.coll HI.out.2.2.1 (by have := Ho.out; have := HI.out; omega)
              clear lg H4 hat
              go_wp2_with fail
              with_reducible refine C1.mono ?_
              rintro e w5 ⟨no, L, co, rfl, _, _, _, h5, _, _⟩
              have H5 : Hid (TLs w w5 p n (lwN f) (fgB ml nb) (i + 1) (i + 1)) := (show TLs _ _ _ _ _ _ _ _ from ⟨⟨W00, 0, h5, Nat.zero_le _, fun q => by rw [hasW_none, SNt_low (Nat.le_refl _)]⟩, Nat.le_refl _⟩)
              clear C1 h5
              go_wp2_with fail
              go_roundg (n + 1 - (i + 1))
              case measure => omega
              case rel => exact ⟨i + 1, i + 1, by go_num, by go_num, by omega, by omega, by omega, H5⟩
            · have y4 : ((i : Int) == (at0 : Int)) = false := by rw [beq_eq_false_iff_ne]; omega
              have H5 : Hid (TLs w wc p n (lwN f) (fgB ml nb) fr (i + 1)) := (show TLs _ _ _ _ _ _ _ _ from ⟨H4.out, by omega⟩)
              clear H4
              go_wp2_with fail
              go_roundg (n + 1 - (i + 1))
              case measure => omega
              case rel => exact ⟨fr, i + 1, rfl, by go_num, by omega, by omega, by omega, H5⟩
      · have z1 : ¬ (i : Int) < (n : Int) := by omega
        go_wp2_with fail
        go_meet
        have ei : n = i := by omega
        exact ⟨fr, rfl, by omega, (by rw [show TLs w wr p n (lwN f) (fgB ml nb) fr n = TLs w wr p n (lwN f) (fgB ml nb) fr i by rw [← ei]]; exact HT)⟩
  case rest =>
    clear H2
    obtain ⟨fr, rfl, hfr, HT⟩ := hcut
    obtain ⟨Wd, o, lg, ho, hs⟩ := HT.out.ex
    have C1 := lg.coll HI.out.2.2.1 (by have := HI.out; omega)
    have HS0 := hid_as hs
    clear lg ho hs HT
    go_wp2_with fail
    with_reducible refine C1.mono ?_
    rintro e w3 ⟨no, L, co, rfl, ax, tl, _, h3, _, _⟩
    clear C1
    obtain ⟨m, hm⟩ : ∃ m, m = L.length := ⟨_, rfl⟩
    have HX : Hid (m = L.length ∧ AS LTw w3 no L ∧ LGo w w3 p true W00 0 ∧ L.Pairwise (· < ·) ∧ ∀ q, q ∈ L ↔ SNt (lwN f) (fgB ml nb) fr n q = true) := by
      refine ⟨hm, ax.src okT_w64, h3, tl.1, fun q => ?_⟩
      rw [tl.2, HS0.out]
    have bm : (m : Int) ≤ 64000 := by omega
    rw [← hm]
    clear ax tl h3 hm HS0
    go_upto_block 2 with fail
    go_cut [] (fun wx => Hid (Kp w3 wx))
    case first =>
      go_wp2_with fail
      go_loopg [13] (m + 1) (fun gg vi wr => ∃ i : Nat, vi = .int .i64 (i : Int) ∧ i ≤ m ∧ m + 1 - i ≤ gg ∧ Hid (Kp w3 wr))
      case atStart => exact ⟨0, rfl, by omega, by omega, (show Kp _ _ from Kp.refl _)⟩
      case round =>
        obtain ⟨i, rfl, hi, hg, HK⟩ := hrel
        by_cases hlt : i < m
        · have z1 : (i : Int) < (m : Int) := by omega
          obtain ⟨q, hq⟩ : ∃ q, L[i]? = some q := ⟨_, List.getElem?_eq_getElem (by have := HX.out.1; omega)⟩
          have HQ : Hid (L[i]? = some q ∧ SNt (lwN f) (fgB ml nb) fr n q = true) := ⟨hq, (HX.out.2.2.2.2 q).1 (List.mem_of_getElem? hq)⟩
          obtain ⟨b2, s2, rfl, hb2, hc2⟩ := HX.out.2.1.word hq
          have HC2 : Hid (b2 < w3.heap.size ∧ w3.cell? ⟨b2, s2 + i, none⟩ = some (.int .u64 (q : Int))) := ⟨hb2, hc2⟩
          clear hq hb2 hc2
          go_upto_block 4 with fail
          go_cut [14] (fun v14 wx => v14 = .bool true ∧ Hid (Kp w3 wx))
          case first =>
            go_wp2_with fail
            go_loopg [14, 15] (n + 1) (fun gs v14 vk wr => ∃ (sn : Bool) (k : Nat), v14 = .bool sn ∧ vk = .int .i64 (k : Int) ∧ fr ≤ k ∧ k ≤ n ∧ n + 1 - k ≤ gs ∧ Hid (Kp w3 wr ∧ ((∃ j, fr ≤ j ∧ j < k ∧ lwN f j = q) → sn = true)))
            case atStart => exact ⟨false, fr, rfl, rfl, by omega, hfr, by omega, (show _ ∧ _ from ⟨HK.out, fun ⟨j, h1, h2, _⟩ => by omega⟩)⟩
            case round =>
              clear HK
              obtain ⟨sn, k, rfl, rfl, hk1, hk2, hgs, HR⟩ := hrel
              by_cases hkn : k < n
              · have y1 : (k : Int) < (n : Int) := by omega
                have y2 : (k : Int) < (len : Int) := by have := HI.out; omega
                cases sn with
                | true =>
                  go_wp2_with fail
                  go_quiet (fail)
                  go_wp2_with fail
                  go_roundg (n + 1 - (k + 1))
                  case measure => omega
                  case rel => exact ⟨true, k + 1, rfl, by go_num, by omega, by omega, by omega, (show _ ∧ _ from ⟨HR.out.1.trans ((Kp.refl _).drewN _), fun _ => by trivial⟩)⟩
                | false =>
                  obtain ⟨b3, s3, rfl, hb3, hc3, _⟩ := HI.out.1.wat (show k < len by omega)
                  have c3 := ((HX.out.2.2.1.k.trans HR.out.1).cell (p := ⟨b3, s3 + k, none⟩) hb3).trans hc3
                  have c2 := (HR.out.1.cell (p := ⟨b2, s2 + i, none⟩) HC2.out.1).trans HC2.out.2
                  obtain ⟨x, hx⟩ : ∃ x, x = lwN f k := ⟨_, rfl⟩
                  rw [← hx] at c3
                  obtain ⟨eq, he⟩ : ∃ eq : Bool, ((x : Int) == (q : Int)) = eq := ⟨_, rfl⟩
                  have HE : Hid ((∃ j, fr ≤ j ∧ j < k + 1 ∧ lwN f j = q) → eq = true) := fun ⟨j, h1, h2, h3⟩ => by
                    by_cases ej : j = k
                    · rw [ej, ← hx] at h3
                      rw [← he, h3]; simp
                    · have := HR.out.2 ⟨j, h1, by omega, h3⟩
                      cases this
                  have HKK : Hid (∀ t, Kp w3 (wr.drewN t)) := fun t => HR.out.1.drewN t
                  clear hb3 hc3 hx HR
                  go_wp2_with fail
                  go_quiet (fail)
                  go_wp2_with fail
                  go_roundg (n + 1 - (k + 1))
                  case measure => omega
                  case rel => exact ⟨eq, k + 1, rfl, by go_num, by omega, by omega, by omega, (show _ ∧ _ from ⟨HKK.out _, HE.out⟩)⟩
              · have y1 : ¬ (k : Int) < (n : Int) := by omega
                have hsn : sn = true := by
                  obtain ⟨j, h1, h2, h3⟩ := SNt_mem HQ.out.2
                  exact HR.out.2 ⟨j, h1, by omega, h3⟩
                subst hsn
                go_wp2_with fail
                go_meet
                exact ⟨rfl, (show Kp _ _ from HR.out.1)⟩
          case rest =>
            clear HK
            obtain ⟨rfl, HK⟩ := hcut
            have c2 := (HK.out.cell (p := ⟨b2, s2 + i, none⟩) HC2.out.1).trans HC2.out.2
            have hql : q < 18446744073709551616 := by
              obtain ⟨j, h1, h2, h3⟩ := SNt_mem HQ.out.2
              have := (HI.out.1.wat (show j < len by have := HI.out; omega))
              obtain ⟨_, _, _, _, _, h⟩ := this
              rw [← h3]; exact h
            have ch : ∀ t, Calls Tryd.prog 19 #[.pointer (some ⟨p, 0, none⟩), .int .u64 (q : Int)] (wc.drewN t) fun e w' => e = .returned (.bool false) ∧ ∃ m, w' = (wc.drewN t).drewN m := fun t => by
              have := (HX.out.2.2.1.kp (HK.out.drewN t)).hasq q hql
              rw [hasW_none] at this
              exact this
            clear hql
            by_cases h0 : 0 < i
            · have y0 : (0 : Int) < (i : Int) := by omega
              obtain ⟨i1, hi1⟩ : ∃ i1, i = i1 + 1 := ⟨i - 1, by omega⟩
              have y1 : (i : Int) - 1 = (i1 : Int) := by omega
              have y2 : (i1 : Int) < (m : Int) := by omega
              obtain ⟨q1, hq1⟩ : ∃ q, L[i1]? = some q := ⟨_, List.getElem?_eq_getElem (by have := HX.out.1; omega)⟩
              obtain ⟨b4, s4, e4, hb4, hc4⟩ := HX.out.2.1.word hq1
              cases e4
              have c4 := (HK.out.cell (p := ⟨b2, s2 + i1, none⟩) hb4).trans hc4
              have hlt2 : q1 < q := by
                obtain ⟨g1, e1⟩ := List.getElem?_eq_some_iff.1 hq1
                obtain ⟨g2, e2⟩ := List.getElem?_eq_some_iff.1 HQ.out.1
                rw [← e1, ← e2]
                exact (List.pairwise_iff_getElem.1 HX.out.2.2.2.1) i1 i g1 g2 (by omega)
              have y3 : decide ((q : Int) ≤ (q1 : Int)) = false := decide_eq_false (by omega)
              have y4 : ¬ (q : Int) ≤ (q1 : Int) := by omega
              have y5 : decide (q ≤ q1) = false := decide_eq_false (by omega)
              have y6 : decide ((0 : Int) < (i : Int)) = true := decide_eq_true y0
              have y7 : decide (0 < i) = true := decide_eq_true h0
              have HKK : Hid (∀ t, Kp w3 (wc.drewN t)) := fun t => HK.out.drewN t
              clear hi1 hq1 hb4 hc4 hlt2 HK
              go_wp2_with fail
              go_quiet (first | (go_at_call 19; refine Calls.quiet_of (ch _)))
              go_wp2_with fail
              go_roundg (m + 1 - (i + 1))
              case measure => omega
              case rel => exact ⟨i + 1, by go_num, by omega, by omega, (show Kp _ _ from HKK.out _)⟩
            · have y0 : ¬ (0 : Int) < (i : Int) := by omega
              have HKK : Hid (∀ t, Kp w3 (wc.drewN t)) := fun t => HK.out.drewN t
              clear HK
              go_wp2_with fail
              go_quiet (first | (go_at_call 19; refine Calls.quiet_of (ch _)))
              go_wp2_with fail
              go_roundg (m + 1 - (i + 1))
              case measure => omega
              case rel => exact ⟨i + 1, by go_num, by omega, by omega, (show Kp _ _ from HKK.out _)⟩
        · have z1 : ¬ (i : Int) < (m : Int) := by omega
          go_wp2_with fail
          go_meet
          exact HK
    case rest =>
      have HK := hcut
      clear hcut
      go_upto_block 6 with fail
      go_cut [] (fun wx => Hid (Kp w3 wx))
      case first =>
        go_wp2_with fail
        go_loopg [16] (n + 1) (fun gg vk wr => ∃ k : Nat, vk = .int .i64 (k : Int) ∧ fr ≤ k ∧ k ≤ n ∧ n + 1 - k ≤ gg ∧ Hid (Kp w3 wr))
        case atStart => exact ⟨fr, rfl, by omega, hfr, by omega, HK⟩
        case round =>
          clear HK
          obtain ⟨k, rfl, hk1, hk2, hgk, HK⟩ := hrel
          by_cases hkn : k < n
          · have y1 : (k : Int) < (n : Int) := by omega
            have y2 : (k : Int) < (len : Int) := by have := HI.out; omega
            obtain ⟨b3, s3, rfl, hb3, hc3, _⟩ := HI.out.1.wat (show k < len by omega)
            obtain ⟨q, hq⟩ : ∃ q, q = lwN f k := ⟨_, rfl⟩
            have HQ := hid_as hq
            rw [← hq] at hc3
            have HC : Hid (b3 < w.heap.size ∧ w.cell? ⟨b3, s3 + k, none⟩ = some (.int .u64 (q : Int))) := ⟨hb3, hc3⟩
            have HG := hid_as (gone_is (l := lwN f) (fg := fgB ml nb) hk1 hkn)
            clear hq hb3 hc3
            go_upto_block 8 with fail
            go_cut [17] (fun v17 wx => ∃ gv : Bool, v17 = .bool gv ∧ Hid (Kp w3 wx ∧ gv = GNt (lwN f) (fgB ml nb) k n))
            case first =>
              go_wp2_with fail
              go_loopg [17, 18] (n + 1) (fun gs v17 vj wr => ∃ (g0 : Bool) (j : Nat), v17 = .bool g0 ∧ vj = .int .i64 (j : Int) ∧ k ≤ j ∧ j ≤ n ∧ n + 1 - j ≤ gs ∧ Hid (Kp w3 wr ∧ g0 = GNt (lwN f) (fgB ml nb) k j))
              case atStart => exact ⟨false, k, rfl, rfl, by omega, by omega, by omega, (show _ ∧ _ from ⟨HK.out, (GNt_low (Nat.le_refl k)).symm⟩)⟩
              case round =>
                clear HK
                obtain ⟨g0, j, rfl, rfl, hj1, hj2, hgs, HR⟩ := hrel
                by_cases hjn : j < n
                · have z1 : (j : Int) < (n : Int) := by omega
                  have z2 : (j : Int) < (len : Int) := by have := HI.out; omega
                  obtain ⟨b4, s4, e4, hb4, hc4, _⟩ := HI.out.1.wat (show j < len by omega)
                  cases e4
                  have kw := HX.out.2.2.1.k.trans HR.out.1
                  have c4 := (kw.cell (p := ⟨b3, s3 + j, none⟩) hb4).trans hc4
                  have c3 := (kw.cell (p := ⟨b3, s3 + k, none⟩) HC.out.1).trans HC.out.2
                  obtain ⟨x, hx⟩ : ∃ x, x = lwN f j := ⟨_, rfl⟩
                  have Hx := hid_as hx
                  rw [← hx] at c4
                  obtain ⟨eq, he⟩ : ∃ eq : Bool, ((x : Int) == (q : Int)) = eq := ⟨_, rfl⟩
                  have HE : Hid (eq = decide (x = q)) := by
                    show eq = decide (x = q)
                    rw [← he]
                    by_cases c : x = q
                    · rw [c, decide_eq_true rfl]; simp
                    · rw [decide_eq_false c, beq_eq_false_iff_ne]; omega
                  clear hb4 hc4 hx kw
                  go_upto_region 36 with fail
                  go_cut [157] (fun v wx => v = .bool eq ∧ Hid (Kp w3 wx))
                  case first =>
                    have HKK : Hid (∀ t, Kp w3 (wr.drewN t)) := fun t => HR.out.1.drewN t
                    go_wp2_with fail
                    go_quiet (fail)
                    go_wp2_with fail
                    go_meet
                    exact ⟨rfl, (show Kp _ _ from HKK.out _)⟩
                  case rest =>
                    clear c4 c3 he
                    obtain ⟨rfl, HK1⟩ := hcut
                    have HR0 := hid_as HR.out.2
                    clear HR
                    go_upto_if 157 with fail
                    go_cut [17] (fun v wx => ∃ g1 : Bool, v = .bool g1 ∧ Hid (Kp w3 wx ∧ g1 = (if eq = true then false else g0)))
                    case first =>
                      cases eq with
                      | true =>
                        go_wp2_with fail
                        go_meet
                        exact ⟨false, rfl, (show _ ∧ _ from ⟨HK1.out, rfl⟩)⟩
                      | false =>
                        go_wp2_with fail
                        go_meet
                        exact ⟨g0, rfl, (show _ ∧ _ from ⟨HK1.out, rfl⟩)⟩
                    case rest =>
                      clear HK1
                      obtain ⟨g1, rfl, HKG⟩ := hcut
                      have HK1 : Hid (Kp w3 wc) := HKG.out.1
                      have HG1 : Hid (g1 = (if eq = true then false else g0)) := HKG.out.2
                      clear HKG
                      obtain ⟨h, hh⟩ : ∃ h, h = j / 2 := ⟨_, rfl⟩
                      have zh : (j : Int).tdiv 2 = (h : Int) := by rw [Int.tdiv_eq_ediv_of_nonneg (by omega)]; omega
                      have zh3 : (j : Int) / 2 = (h : Int) := by omega
                      have zh2 : (h : Int) < (len : Int) := by omega
                      obtain ⟨b5, s5, e5, hb5, hc5, _⟩ := HI.out.1.wat (show h < len by omega)
                      cases e5
                      obtain ⟨y, hy⟩ : ∃ y, y = lwN f h := ⟨_, rfl⟩
                      have kw := HX.out.2.2.1.k.trans HK1.out
                      have c5 := (kw.cell (p := ⟨b3, s3 + h, none⟩) hb5).trans hc5
                      have c3 := (kw.cell (p := ⟨b3, s3 + k, none⟩) HC.out.1).trans HC.out.2
                      rw [← hy] at c5
                      obtain ⟨eq2, he2⟩ : ∃ eq : Bool, ((y : Int) == (q : Int)) = eq := ⟨_, rfl⟩
                      have HV : Hid ((g1 || (fgB ml nb j && eq2)) = GNt (lwN f) (fgB ml nb) k (j + 1)) := by
                        show _ = _
                        have e6 : eq2 = decide (y = q) := by
                          rw [← he2]
                          by_cases c : y = q
                          · rw [c, decide_eq_true rfl]; simp
                          · rw [decide_eq_false c, beq_eq_false_iff_ne]; omega
                        rw [GNt_on hj1, ← hh, ← hy, ← HQ.out, ← e6, ← Hx.out, HG1.out, HE.out, ← HR0.out]
                        congr 1
                        by_cases c : x = q
                        · rw [if_pos c, if_pos (decide_eq_true c)]
                        · rw [if_neg c, decide_eq_false c]; rfl
                      have HKK : Hid (∀ t, Kp w3 (wc.drewN t)) := fun t => HK1.out.drewN t
                      clear hh hy hb5 hc5 HR0 HG1 HE Hx
                      clear HK1
                      cases g1 with
                      | true =>
                        have HV2 : Hid (true = GNt (lwN f) (fgB ml nb) k (j + 1)) := HV.out
                        clear HV
                        go_wp2_with fail
                        go_quiet (fail)
                        go_wp2_with fail
                        go_roundg (n + 1 - (j + 1))
                        case measure => omega
                        case rel => exact ⟨_, j + 1, rfl, by go_num, by omega, by omega, by omega, (show _ ∧ _ from ⟨HKK.out _, HV2.out⟩)⟩
                      | false =>
                        by_cases hjm : j < ml
                        · have z3 : (j : Int) < (ml : Int) := by omega
                          have z3d : decide ((j : Int) < (ml : Int)) = true := decide_eq_true z3
                          have z3e : decide (j < ml) = true := decide_eq_true hjm
                          obtain ⟨b6, s6, rfl, hb6, hc6⟩ := HI.out.2.1 j hjm
                          have c6 := (kw.cell (p := ⟨b6, s6 + j, none⟩) hb6).trans hc6
                          have HV1 : Hid ((nb j && eq2) = GNt (lwN f) (fgB ml nb) k (j + 1)) := by
                            show _ = _
                            rw [← HV.out]
                            unfold fgB
                            rw [decide_eq_true hjm]
                            rfl
                          clear HV
                          obtain ⟨gn, hgn⟩ : ∃ gn, gn = GNt (lwN f) (fgB ml nb) k (j + 1) := ⟨_, rfl⟩
                          have Hgn := hid_as hgn
                          rw [← hgn] at HV1
                          clear hgn hb6 hc6 kw
                          obtain ⟨bj, hbj⟩ : ∃ bj, bj = nb j := ⟨_, rfl⟩
                          rw [← hbj] at c6 HV1
                          clear hbj
                          cases bj with
                          | true =>
                            have HV2 : Hid (eq2 = GNt (lwN f) (fgB ml nb) k (j + 1)) := by
                              show _ = _
                              rw [← Hgn.out]; exact HV1.out
                            clear HV1 Hgn
                            go_wp2_with fail
                            go_quiet (fail)
                            go_wp2_with fail
                            go_roundg (n + 1 - (j + 1))
                            case measure => omega
                            case rel => exact ⟨_, j + 1, rfl, by go_num, by omega, by omega, by omega, (show _ ∧ _ from ⟨HKK.out _, HV2.out⟩)⟩
                          | false =>
                            have HV2 : Hid (false = GNt (lwN f) (fgB ml nb) k (j + 1)) := by
                              show _ = _
                              rw [← Hgn.out]; exact HV1.out
                            clear HV1 Hgn
                            go_wp2_with fail
                            go_quiet (fail)
                            go_wp2_with fail
                            go_roundg (n + 1 - (j + 1))
                            case measure => omega
                            case rel => exact ⟨_, j + 1, rfl, by go_num, by omega, by omega, by omega, (show _ ∧ _ from ⟨HKK.out _, HV2.out⟩)⟩
                        · have z3 : ¬ (j : Int) < (ml : Int) := by omega
                          have z3d : decide ((j : Int) < (ml : Int)) = false := decide_eq_false z3
                          have z3e : decide (j < ml) = false := decide_eq_false hjm
                          have HV2 : Hid (false = GNt (lwN f) (fgB ml nb) k (j + 1)) := by
                            show _ = _
                            rw [← HV.out]
                            unfold fgB
                            rw [decide_eq_false hjm]
                            rfl
                          clear HV kw
                          go_wp2_with fail
                          go_quiet (fail)
                          go_wp2_with fail
                          go_roundg (n + 1 - (j + 1))
                          case measure => omega
                          case rel => exact ⟨_, j + 1, rfl, by go_num, by omega, by omega, by omega, (show _ ∧ _ from ⟨HKK.out _, HV2.out⟩)⟩
                · have z1 : ¬ (j : Int) < (n : Int) := by omega
                  have ej : n = j := by omega
                  have e0 := hid_as (show g0 = GNt (lwN f) (fgB ml nb) k n by rw [HR.out.2, ej])
                  clear ej
                  go_wp2_with fail
                  go_meet
                  exact ⟨g0, rfl, (show _ ∧ _ from ⟨HR.out.1, e0.out⟩)⟩
            case rest =>
              clear HK
              obtain ⟨gv, rfl, HKG⟩ := hcut
              have HK : Hid (Kp w3 wc) := HKG.out.1
              have HGV : Hid (SNt (lwN f) (fgB ml nb) fr n q = !gv) := by
                show _ = _
                rw [HKG.out.2, HQ.out]
                exact HG.out
              clear HKG HG
              go_upto_block 10 with fail
              go_cut [19] (fun v19 wx => ∃ fv : Bool, v19 = .bool fv ∧ Hid (Kp w3 wx ∧ fv = !gv))
              case first =>
                go_wp2_with fail
                go_loopg [19, 20] (m + 1) (fun gs v19 vi wr => ∃ (sn : Bool) (i : Nat), v19 = .bool sn ∧ vi = .int .i64 (i : Int) ∧ i ≤ m ∧ m + 1 - i ≤ gs ∧ Hid (Kp w3 wr ∧ (sn = true ↔ ∃ j, j < i ∧ L[j]? = some q)))
                case atStart => exact ⟨false, 0, rfl, rfl, by omega, by omega, (show _ ∧ _ from ⟨HK.out, ⟨(fun c => by cases c), fun ⟨j, h1, _⟩ => by omega⟩⟩)⟩
                case round =>
                  clear HK
                  obtain ⟨sn, i, rfl, rfl, hi, hgs, HR⟩ := hrel
                  by_cases him : i < m
                  · have z1 : (i : Int) < (m : Int) := by omega
                    cases sn with
                    | true =>
                      have HV2 : Hid (∃ j, j < i + 1 ∧ L[j]? = some q) := by
                        obtain ⟨j, h1, h2⟩ := HR.out.2.1 rfl
                        exact ⟨j, by omega, h2⟩
                      have HKK : Hid (∀ t, Kp w3 (wr.drewN t)) := fun t => HR.out.1.drewN t
                      clear HR
                      go_wp2_with fail
                      go_quiet (fail)
                      go_wp2_with fail
                      go_roundg (m + 1 - (i + 1))
                      case measure => omega
                      case rel => exact ⟨true, i + 1, rfl, by go_num, by omega, by omega, (show _ ∧ _ from ⟨HKK.out _, ⟨fun _ => HV2.out, fun _ => by trivial⟩⟩)⟩
                    | false =>
                      obtain ⟨x, hx⟩ : ∃ x, L[i]? = some x := ⟨_, List.getElem?_eq_getElem (by have := HX.out.1; omega)⟩
                      obtain ⟨b6, s6, rfl, hb6, hc6⟩ := HX.out.2.1.word hx
                      have c6 := (HR.out.1.cell (p := ⟨b6, s6 + i, none⟩) hb6).trans hc6
                      have c3 := ((HX.out.2.2.1.k.trans HR.out.1).cell (p := ⟨b3, s3 + k, none⟩) HC.out.1).trans HC.out.2
                      obtain ⟨eq, he⟩ : ∃ eq : Bool, ((x : Int) == (q : Int)) = eq := ⟨_, rfl⟩
                      have HV2 : Hid (eq = true ↔ ∃ j, j < i + 1 ∧ L[j]? = some q) := by
                        show _ ↔ _
                        rw [← he, beq_iff_eq]
                        constructor
                        · intro c
                          exact ⟨i, by omega, by rw [hx, show x = q by omega]⟩
                        · rintro ⟨j, h1, h2⟩
                          by_cases ej : j = i
                          · rw [ej, hx] at h2
                            injection h2 with h2
                            omega
                          · have := HR.out.2.2 ⟨j, by omega, h2⟩
                            cases this
                      have HKK : Hid (∀ t, Kp w3 (wr.drewN t)) := fun t => HR.out.1.drewN t
                      clear HR hx hb6 hc6
                      go_wp2_with fail
                      go_quiet (fail)
                      go_wp2_with fail
                      go_roundg (m + 1 - (i + 1))
                      case measure => omega
                      case rel => exact ⟨eq, i + 1, rfl, by go_num, by omega, by omega, (show _ ∧ _ from ⟨HKK.out _, HV2.out⟩)⟩
                  · have z1 : ¬ (i : Int) < (m : Int) := by omega
                    have HV2 : Hid (sn = !gv) := by
                      show sn = !gv
                      rw [← HGV.out]
                      have h1 := HR.out.2
                      have h2 := HX.out.2.2.2.2 q
                      rw [List.mem_iff_getElem?] at h2
                      rw [Bool.eq_iff_iff, h1, ← h2]
                      constructor
                      · rintro ⟨j, _, h⟩; exact ⟨j, h⟩
                      · rintro ⟨j, h⟩
                        exact ⟨j, by have := (List.getElem?_eq_some_iff.1 h).1; have := HX.out.1; omega, h⟩
                    go_wp2_with fail
                    go_meet
                    exact ⟨sn, rfl, (show _ ∧ _ from ⟨HR.out.1, HV2.out⟩)⟩
              case rest =>
                clear HK HGV
                obtain ⟨fv, rfl, HKF⟩ := hcut
                have ef : fv = !gv := HKF.out.2
                have HK : Hid (Kp w3 wc) := HKF.out.1
                have y5 : (fv == gv) = false := by rw [ef]; cases gv <;> rfl
                clear ef HKF
                go_wp2_with fail
                go_roundg (n + 1 - (k + 1))
                case measure => omega
                case rel => exact ⟨k + 1, by go_num, by omega, by omega, by omega, HK⟩
          · have y1 : ¬ (k : Int) < (n : Int) := by omega
            go_wp2_with fail
            go_meet
            exact HK
      case rest =>
        clear HK
        have HK := hcut
        clear hcut
        have kw := HX.out.2.2.1.k.trans HK.out
        have C1 := dtold19_any _ (HI.out.2.2.1.kp kw)
        have HW := hid_as kw
        clear kw HK HX
        go_wp2_with fail
        with_reducible refine C1.mono ?_
        rintro e w9 ⟨rfl, k9⟩
        have HF := hid_as (HW.out.trans k9)
        clear C1 k9 HW
        go_wp2_with fail
        go_ret
        exact ⟨rfl, HF.out⟩

end Go.Proofs.YthkkcnnlfjchaaaDoor
