/- DirtyOff. -/
import Derived.Test.YthkkcnnlfjchaaaDoorLB
namespace Go.Proofs.YthkkcnnlfjchaaaDoor
open Go.RowKit Go.Maps
set_option maxRecDepth 10000

theorem delB_none (x : Nat) : delB W00 x = W00 := delB_same (fun _ => (by decide : 0 < 18446744073709551616)) (hasW_none x)
/-- A word of a list that came in. -/
theorem NSK.word {w : World} {na : Option Addr} {m : Nat} {f : Nat → Int} (h : NSK .u64 w na m f) {i : Nat} (hi : i < m) : ∃ (x : Nat) (b s : Nat), x < 18446744073709551616 ∧ na = some ⟨b, s, none⟩ ∧ b < w.heap.size ∧ w.cell? ⟨b, s + i, none⟩ = some (.int .u64 (x : Int)) := by
  obtain ⟨⟨b, s, e, hb, hc⟩, hw⟩ := h i hi
  obtain ⟨h1, h2⟩ := wf_word hw
  refine ⟨(f i).toNat, b, s, by omega, e, hb, ?_⟩
  rw [hc, Int.toNat_of_nonneg h1]
theorem LGo.note_off {w0 wr : World} {p o x : Nat} (h : LGo w0 wr p false W00 o) (hx : x < 18446744073709551616) (ho : o ≤ 2000000) : Calls Tryd.prog 16 #[.pointer (some ⟨p, 0, none⟩), .int .u64 (x : Int)] wr fun e w' => e = .returned (.bool false) ∧ LGo w0 w' p false W00 (o + 1) := h.note x hx ho
theorem LGo.has_none {w0 wr : World} {p o x : Nat} {on : Bool} (h : LGo w0 wr p on W00 o) (hx : x < 18446744073709551616) : Calls Tryd.prog 19 #[.pointer (some ⟨p, 0, none⟩), .int .u64 (x : Int)] wr fun e w' => e = .returned (.bool false) ∧ LGo w0 w' p on W00 o := by
  have := h.has x hx
  rw [hasW_none] at this
  exact this
theorem LGo.forget_none {w0 wr : World} {p o x : Nat} {on : Bool} (h : LGo w0 wr p on W00 o) (hx : x < 18446744073709551616) (ho : o ≤ 2000000) : Calls Tryd.prog 7 #[.pointer (some ⟨p, 0, none⟩), .int .u64 (x : Int)] wr fun e w' => e = .returned (.bool false) ∧ LGo w0 w' p on W00 o := by
  have := h.forget x hx ho
  rw [hasW_none, delB_none] at this
  exact this
set_option maxHeartbeats 16000000 in
theorem off19_any (na : Option Addr) (len cap : Nat) (f : Nat → Int) (w : World) (NI : NSK .u64 w na len f) (T : TAB w) :
    Calls Tryd.prog 5 #[.slice na len cap] w fun e w' => e = .returned (.bool true) ∧ Kp w w' := by
  have cn := LGo.new w
  have HI : Hid (NSK .u64 w na len f ∧ TAB w) := ⟨NI, T⟩
  obtain ⟨n, hn1, hn2, hn3⟩ : ∃ n : Nat, (if (40 : Int) < (len : Int) then (40 : Int) else (len : Int)) = (n : Int) ∧ n ≤ 40 ∧ n ≤ len := by
    by_cases c : 40 < len
    · exact ⟨40, by rw [if_pos (by omega)]; rfl, by omega, by omega⟩
    · exact ⟨len, by rw [if_neg (by omega)], by omega, by omega⟩
  have HN : Hid (n ≤ 40 ∧ n ≤ len) := ⟨hn2, hn3⟩
  have bn : (n : Int) ≤ 40 := by omega
  clear NI T hn2 hn3
  go_enter Tryd.func5, Tryd.ntmps5
  go_wp2_with fail
  with_reducible refine cn.mono ?_
  rintro e w1 ⟨p, rfl, h1⟩
  have H1 := hid_as h1
  clear cn h1
  go_wp2_with fail
  go_loopg [5] 3 (fun g1 vt wr => ∃ t : Nat, vt = .int .i64 (t : Int) ∧ t ≤ 2 ∧ 3 - t ≤ g1 ∧ Hid (LGo w wr p false W00 0))
  case atStart => exact ⟨0, rfl, by omega, by omega, H1⟩
  case round =>
    clear H1
    obtain ⟨t, rfl, ht, hg1, HT⟩ := hrel
    by_cases ht2 : t < 2
    · have zt : (t : Int) < 2 := by omega
      go_wp2_with fail
      go_loopg [6] (n + 1) (fun g2 vi wr => ∃ (i o : Nat), vi = .int .i64 (i : Int) ∧ i ≤ n ∧ n + 1 - i ≤ g2 ∧ Hid (o ≤ i ∧ LGo w wr p false W00 o))
      case atStart => exact ⟨0, 0, rfl, by omega, by omega, (show _ ∧ _ from ⟨Nat.le_refl _, HT.out⟩)⟩
      case round =>
        clear HT
        obtain ⟨i, o, rfl, hi, hg2, HR⟩ := hrel
        by_cases hlt : i < n
        · have z1 : (i : Int) < (n : Int) := by omega
          have z2 : (i : Int) < (len : Int) := by have := HN.out; omega
          obtain ⟨x, b, s, hx, rfl, hb, hc⟩ := HI.out.1.word (show i < len by omega)
          have HX := hid_as hx
          have HC : Hid (b < w.heap.size ∧ w.cell? ⟨b, s + i, none⟩ = some (.int .u64 (x : Int))) := ⟨hb, hc⟩
          have e1 := (HR.out.2.k.cell (p := ⟨b, s + i, none⟩) hb).trans hc
          have C1 := HR.out.2.note_off hx (by have := HR.out.1; have := HN.out; omega)
          clear hb hc hx
          go_wp2_with fail
          with_reducible refine C1.mono ?_
          rintro e w2 ⟨rfl, h2⟩
          clear C1 e1
          have e1 := (h2.k.cell (p := ⟨b, s + i, none⟩) HC.out.1).trans HC.out.2
          have C1 := h2.has_none HX.out
          clear h2
          go_wp2_with fail
          with_reducible refine C1.mono ?_
          rintro e w3 ⟨rfl, h3⟩
          clear C1 e1
          have e1 := (h3.k.cell (p := ⟨b, s + i, none⟩) HC.out.1).trans HC.out.2
          have C1 := h3.forget_none HX.out (by have := HR.out.1; have := HN.out; omega)
          clear h3
          go_wp2_with fail
          with_reducible refine C1.mono ?_
          rintro e w4 ⟨rfl, h4⟩
          have H4 := hid_as h4
          clear C1 e1 h4
          go_wp2_with fail
          go_roundg (n + 1 - (i + 1))
          case measure => omega
          case rel => exact ⟨i + 1, o + 1, by go_num, by omega, by omega, (show _ ∧ _ from ⟨by have := HR.out.1; omega, H4.out⟩)⟩
        · have z1 : ¬ (i : Int) < (n : Int) := by omega
          have C1 := HR.out.2.coll_no
          go_wp2_with fail
          with_reducible refine C1.mono ?_
          rintro e w2 ⟨rfl, rfl⟩
          clear C1
          have C1 := HR.out.2.stop_no
          go_wp2_with fail
          with_reducible refine C1.mono ?_
          rintro e w3 ⟨rfl, rfl⟩
          clear C1
          have C1 := HR.out.2.isOn
          go_wp2_with fail
          with_reducible refine C1.mono ?_
          rintro e w4 ⟨rfl, rfl⟩
          clear C1
          have C1 := HR.out.2.start
          go_wp2_with fail
          with_reducible refine C1.mono ?_
          rintro e w5 ⟨rfl, h5⟩
          clear C1 HR
          have C1 := h5.isOn
          have H5 := hid_as h5
          clear h5
          go_wp2_with fail
          with_reducible refine C1.mono ?_
          rintro e w6 ⟨rfl, rfl⟩
          clear C1 hi hg2 z1 hlt
          go_wp2_with fail
          go_loopg [9] (n + 1) (fun g2 vi wr => ∃ (i o : Nat) (W : Nat → Nat), vi = .int .i64 (i : Int) ∧ i ≤ n ∧ n + 1 - i ≤ g2 ∧ Hid (o ≤ 2 * i ∧ LGo w wr p true W o))
          case atStart => exact ⟨0, 0, _, rfl, by omega, by omega, (show _ ∧ _ from ⟨Nat.le_refl _, H5.out⟩)⟩
          case round =>
            clear H5
            obtain ⟨i, o, Wd, rfl, hi, hg2, HR⟩ := hrel
            by_cases hlt : i < n
            · have z1 : (i : Int) < (n : Int) := by omega
              have z2 : (i : Int) < (len : Int) := by have := HN.out; omega
              obtain ⟨x, b, s, hx, rfl, hb, hc⟩ := HI.out.1.word (show i < len by omega)
              have HX := hid_as hx
              have HC : Hid (b < w.heap.size ∧ w.cell? ⟨b, s + i, none⟩ = some (.int .u64 (x : Int))) := ⟨hb, hc⟩
              have e1 := (HR.out.2.k.cell (p := ⟨b, s + i, none⟩) hb).trans hc
              have C1 := HR.out.2.note x hx (by have := HR.out.1; have := HN.out; omega)
              clear hb hc hx
              go_wp2_with fail
              with_reducible refine C1.mono ?_
              rintro e w2 ⟨rfl, h2⟩
              clear C1 e1
              have h2 : LGo w w2 p true (addB Wd x) (o + 1) := h2
              have e1 := (h2.k.cell (p := ⟨b, s + i, none⟩) HC.out.1).trans HC.out.2
              have C1 := h2.has x HX.out
              rw [hasW_add, decide_eq_true rfl, Bool.true_or] at C1
              clear h2
              go_wp2_with fail
              with_reducible refine C1.mono ?_
              rintro e w3 ⟨rfl, h3⟩
              clear C1 e1
              have e1 := (h3.k.cell (p := ⟨b, s + i, none⟩) HC.out.1).trans HC.out.2
              have C1 : Calls Tryd.prog 16 #[.pointer (some ⟨p, 0, none⟩), .int .u64 (x : Int)] w3 fun e w' => e = .returned (.bool false) ∧ LGo w w' p true (addB (addB Wd x) x) (o + 1 + 1) := by
                have := h3.note x HX.out (by have := HR.out.1; have := HN.out; omega)
                rw [hasW_add, decide_eq_true rfl, Bool.true_or] at this
                exact this
              clear h3
              go_wp2_with fail
              with_reducible refine C1.mono ?_
              rintro e w4 ⟨rfl, h4⟩
              have H4 := hid_as h4
              clear C1 e1 h4
              go_wp2_with fail
              go_roundg (n + 1 - (i + 1))
              case measure => omega
              case rel => exact ⟨i + 1, _, _, by go_num, by omega, by omega, (show _ ∧ _ from ⟨by have := HR.out.1; omega, H4.out⟩)⟩
            · have z1 : ¬ (i : Int) < (n : Int) := by omega
              have C1 := HR.out.2.stop
              clear HR
              go_wp2_with fail
              with_reducible refine C1.mono ?_
              rintro e w2 ⟨rfl, h2⟩
              have H2 := hid_as h2
              clear C1 h2
              go_wp2_with fail
              go_roundg (3 - (t + 1))
              case measure => omega
              case rel => exact ⟨t + 1, by go_num, by omega, by omega, H2⟩
    · have zt : ¬ (t : Int) < 2 := by omega
      have C1 := HT.out.start
      clear HT
      go_wp2_with fail
      with_reducible refine C1.mono ?_
      rintro e w2 ⟨rfl, h2⟩
      clear C1
      have C1 := h2.coll HI.out.2 (by omega)
      clear h2
      go_wp2_with fail
      with_reducible refine C1.mono ?_
      rintro e w3 ⟨no, L, co, rfl, ax, tl, _, h3, _, _⟩
      clear C1
      have e8 : L = [] := tl.is List.Pairwise.nil (fun q => by rw [hasW_none]; simp)
      subst e8
      have C1 := dtold19_any w3 (HI.out.2.kp h3.k)
      have HX : Hid (AS LTw w3 no [] ∧ Kp w w3) := ⟨ax.src okT_w64, h3.k⟩
      clear ax tl h3
      go_wp2_with fail
      with_reducible refine C1.mono ?_
      rintro e w4 ⟨rfl, k4⟩
      clear C1
      have C1 : Calls Tryd.prog 11 #[.slice no 0 co, .slice none 0 0] w4 fun e w' => e = .returned (.bool true) ∧ Kp w4 w' := by
        have := wsame_any (HX.out.1.kp k4) (show AS LTw w4 none [] from .inl ⟨rfl, rfl⟩) co 0 (by decide)
        simpa using this
      have HK := hid_as (HX.out.2.trans k4)
      clear k4 HX
      go_wp2_with fail
      with_reducible refine C1.mono ?_
      rintro e w5 ⟨rfl, k5⟩
      have HK5 := hid_as (HK.out.trans k5)
      clear C1 k5 HK
      go_wp2_with fail
      go_ret
      exact ⟨rfl, HK5.out⟩

end Go.Proofs.YthkkcnnlfjchaaaDoor
