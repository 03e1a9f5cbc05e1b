/- dirty: the log above a world; Words; told. -/
import Derived.Test.YthkkcnnlfjchaaaDoorL8
namespace Go.Proofs.YthkkcnnlfjchaaaDoor
open Go.RowKit Go.Maps
set_option maxRecDepth 10000

/-- A log of one's own, above w0: at most o keys. -/
structure LGo (w0 wr : World) (p : Nat) (on : Bool) (W : Nat → Nat) (o : Nat) : Prop where
  k : Kp w0 wr
  d : ∃ bm K, DLg wr p bm on W K ∧ K.length ≤ o ∧ w0.heap.size ≤ bm
  up : w0.heap.size ≤ p
section
variable {w0 wr : World} {p : Nat} {on : Bool} {W : Nat → Nat} {o : Nat}
theorem LGo.kp {w' : World} (h : LGo w0 wr p on W o) (k : Kp wr w') : LGo w0 w' p on W o := by
  obtain ⟨bm, K, d, l, u⟩ := h.d
  exact ⟨h.k.trans k, ⟨bm, K, d.kp k, l, u⟩, h.up⟩
theorem LGo.new (w : World) : Calls Tryd.prog 6 #[] w fun e w' => ∃ p, e = .returned (.pointer (some ⟨p, 0, none⟩)) ∧ LGo w w' p false (fun _ => 0) 0 :=
  (dgnew_any w).mono fun _ _ ⟨p, bm, he, hd, k, hp, hb⟩ => ⟨p, he, k, ⟨bm, [], hd, Nat.le_refl _, hb⟩, hp⟩
theorem LGo.isOn (h : LGo w0 wr p on W o) : Calls Tryd.prog 18 #[.pointer (some ⟨p, 0, none⟩)] wr fun e w' => e = .returned (.bool on) ∧ w' = wr := by
  obtain ⟨bm, K, d, l, u⟩ := h.d
  exact dgon_any d
theorem LGo.has (h : LGo w0 wr p on W o) (x : Nat) (hx : x < 18446744073709551616) : Calls Tryd.prog 19 #[.pointer (some ⟨p, 0, none⟩), .int .u64 (x : Int)] wr fun e w' => e = .returned (.bool (hasW W x)) ∧ LGo w0 w' p on W o := by
  obtain ⟨bm, K, d, l, u⟩ := h.d
  refine (dghas_any d x hx).mono ?_
  rintro e w' ⟨he, n, rfl⟩
  exact ⟨he, h.kp ((Kp.refl wr).drewN n)⟩
theorem LGo.note (h : LGo w0 wr p on W o) (x : Nat) (hx : x < 18446744073709551616) (ho : o ≤ 2000000) : Calls Tryd.prog 16 #[.pointer (some ⟨p, 0, none⟩), .int .u64 (x : Int)] wr fun e w' => e = .returned (.bool (on && !hasW W x)) ∧ LGo w0 w' p on (if on then addB W x else W) (o + 1) := by
  obtain ⟨bm, K, d, l, u⟩ := h.d
  refine (note_any d x hx (by omega)).mono ?_
  rintro e w' ⟨he, K', d', l', f⟩
  exact ⟨he, f.kp h.k (fun i e => by have e : i = bm := e; omega), ⟨bm, K', d', by omega, u⟩, h.up⟩
theorem LGo.forget (h : LGo w0 wr p on W o) (x : Nat) (hx : x < 18446744073709551616) (ho : o ≤ 2000000) : Calls Tryd.prog 7 #[.pointer (some ⟨p, 0, none⟩), .int .u64 (x : Int)] wr fun e w' => e = .returned (.bool (hasW W x)) ∧ LGo w0 w' p on (delB W x) o := by
  obtain ⟨bm, K, d, l, u⟩ := h.d
  refine (forget_any d x hx (by omega)).mono ?_
  rintro e w' ⟨he, K', d', l', f⟩
  exact ⟨he, f.kp h.k (fun i e => by have e : i = bm := e; omega), ⟨bm, K', d', by omega, u⟩, h.up⟩
theorem LGo.turned {w' : World} (h : LGo w0 wr p on W o) {v : Bool} {W' : Nat → Nat} (hh : ∃ bm', DLg w' p bm' v W' [] ∧ wr.heap.size ≤ bm' ∧ Fr (· = p) wr w') : LGo w0 w' p v W' 0 := by
  obtain ⟨bm, hd, hb, f⟩ := hh
  exact ⟨f.kp h.k (fun i e => by have e : i = p := e; have := h.up; omega), ⟨bm, [], hd, Nat.le_refl _, Nat.le_trans h.k.size hb⟩, h.up⟩
theorem LGo.start (h : LGo w0 wr p false W o) : Calls Tryd.prog 12 #[.pointer (some ⟨p, 0, none⟩)] wr fun e w' => e = .returned (.int .i64 0) ∧ LGo w0 w' p true (fun _ => 0) 0 := by
  obtain ⟨bm, K, d, l, u⟩ := h.d
  refine (start_any d).mono ?_
  rintro e w' (⟨c, _⟩ | ⟨_, he, hh⟩)
  · cases c
  · exact ⟨he, h.turned hh⟩
theorem LGo.start_no (h : LGo w0 wr p true W o) : Calls Tryd.prog 12 #[.pointer (some ⟨p, 0, none⟩)] wr fun e w' => e = .returned (.int .i64 20) ∧ w' = wr := by
  obtain ⟨bm, K, d, l, u⟩ := h.d
  refine (start_any d).mono ?_
  rintro e w' (⟨_, he, hw⟩ | ⟨c, _⟩)
  · exact ⟨he, hw⟩
  · cases c
theorem LGo.stop (h : LGo w0 wr p true W o) : Calls Tryd.prog 14 #[.pointer (some ⟨p, 0, none⟩)] wr fun e w' => e = .returned (.int .i64 0) ∧ LGo w0 w' p false (fun _ => 0) 0 := by
  obtain ⟨bm, K, d, l, u⟩ := h.d
  refine (stop_any d).mono ?_
  rintro e w' (⟨c, _⟩ | ⟨_, he, hh⟩)
  · cases c
  · exact ⟨he, h.turned hh⟩
theorem LGo.stop_no (h : LGo w0 wr p false W o) : Calls Tryd.prog 14 #[.pointer (some ⟨p, 0, none⟩)] wr fun e w' => e = .returned (.int .i64 20) ∧ w' = wr := by
  obtain ⟨bm, K, d, l, u⟩ := h.d
  refine (stop_any d).mono ?_
  rintro e w' (⟨_, he, hw⟩ | ⟨c, _⟩)
  · exact ⟨he, hw⟩
  · cases c
theorem LGo.coll_no (h : LGo w0 wr p false W o) : Calls Tryd.prog 9 #[.pointer (some ⟨p, 0, none⟩)] wr fun e w' => e = .returned (.tuple #[.slice none 0 0, .int .i64 20]) ∧ w' = wr := by
  obtain ⟨bm, K, d, l, u⟩ := h.d
  exact dcoll_off d
theorem LGo.coll (h : LGo w0 wr p true W o) (T : TAB w0) (ho : o ≤ 1000) : Calls Tryd.prog 9 #[.pointer (some ⟨p, 0, none⟩)] wr fun e w' => ∃ na L cap, e = .returned (.tuple #[.slice na L.length cap, .int .i64 0]) ∧ AX LTw w' wr.heap.size (.slice na L.length cap) L ∧ Tells W L ∧ L.length ≤ 64000 ∧ LGo w0 w' p true (fun _ => 0) 0 ∧ Fr (· = p) wr w' ∧ p < wr.heap.size := by
  obtain ⟨bm, K, d, l, u⟩ := h.d
  refine (dcoll_on d (T.kp h.k) (by omega)).mono ?_
  rintro e w' ⟨na, L, cap, he, ax, tl, ll, bm', hd, hb, _, hf⟩
  exact ⟨na, L, cap, he, ax, tl, ll, h.turned ⟨bm', hd, hb, hf⟩, hf, d.lt⟩
end

/-! ### lists of words -/
theorem AS.word {w : World} {na : Option Addr} {L : List Nat} (h : AS LTw w na L) {i x : Nat} (hx : L[i]? = some x) : ∃ b s, na = some ⟨b, s, none⟩ ∧ b < w.heap.size ∧ w.cell? ⟨b, s + i, none⟩ = some (.int .u64 (x : Int)) := by
  rcases h with ⟨_, rfl⟩ | ⟨b, s, e, hb, hc⟩
  · simp at hx
  · refine ⟨b, s, e, hb, hc i _ ?_⟩
    rw [flat_w64, List.map_map, List.getElem?_map, hx]
    rfl
set_option maxHeartbeats 4000000 in
theorem wsame_any {w : World} {na nb : Option Addr} {L M : List Nat} (h1 : AS LTw w na L) (h2 : AS LTw w nb M) (c1 c2 : Nat) (hl : L.length ≤ 1000000) :
    Calls Tryd.prog 11 #[.slice na L.length c1, .slice nb M.length c2] w fun e w' => e = .returned (.bool (decide (L = M))) ∧ Kp w w' := by
  obtain ⟨n, hn⟩ : ∃ n, n = L.length := ⟨_, rfl⟩
  obtain ⟨m, hm2⟩ : ∃ m, m = M.length := ⟨_, rfl⟩
  rw [← hn, ← hm2]
  have HN : Hid (n = L.length ∧ m = M.length ∧ AS LTw w na L ∧ AS LTw w nb M) := ⟨hn, hm2, h1, h2⟩
  have bn : (n : Int) ≤ 1000000 := by omega
  obtain ⟨r, hr⟩ : ∃ r, r = decide (L = M) := ⟨_, rfl⟩
  rw [← hr]
  have HR : Hid (r = decide (L = M)) := hr
  by_cases c : n = m
  · have y1 : ((n : Int) != (m : Int)) = false := by rw [c]; simp
    have hc := hid_as c
    clear hr h1 h2 hn hm2 c hl
    go_enter Tryd.func11, Tryd.ntmps11
    go_wp2_with fail
    go_loopg [5] (n + 1) (fun gg v5 wr => ∃ i : Nat, v5 = .int .i64 (i : Int) ∧ i ≤ n ∧ n + 1 - i ≤ gg ∧ Hid (Kp w wr ∧ ∀ j, j < i → L[j]? = M[j]?))
    case atStart => exact ⟨0, rfl, by omega, by omega, (show _ ∧ _ from ⟨Kp.refl _, fun j hj => by omega⟩)⟩
    case round =>
      obtain ⟨i, rfl, hi, hg, HI⟩ := hrel
      by_cases hlt : i < n
      · have z1 : (i : Int) < (n : Int) := by omega
        have z2 : (i : Int) < (m : Int) := by have := hc.out; omega
        obtain ⟨x, hx⟩ : ∃ x, L[i]? = some x := ⟨_, List.getElem?_eq_getElem (by have := HN.out.1; omega)⟩
        obtain ⟨y, hy⟩ : ∃ x, M[i]? = some x := ⟨_, List.getElem?_eq_getElem (by have := HN.out.2.1; have := hc.out; omega)⟩
        obtain ⟨b1, s1, rfl, l1, e1⟩ := HN.out.2.2.1.word hx
        obtain ⟨b2, s2, rfl, l2, e2⟩ := HN.out.2.2.2.word hy
        have e1 := (HI.out.1.cell (p := ⟨b1, s1 + i, none⟩) l1).trans e1
        have e2 := (HI.out.1.cell (p := ⟨b2, s2 + i, none⟩) l2).trans e2
        by_cases exy : x = y
        · have y2 : ((x : Int) != (y : Int)) = false := by rw [exy]; simp
          have HX : Hid (∀ j, j < i + 1 → L[j]? = M[j]?) := fun j hj => by
            by_cases ej : j = i
            · rw [ej, hx, hy, exy]
            · exact HI.out.2 j (by omega)
          clear hx hy exy
          go_wp2_with fail
          go_quiet (fail)
          go_wp2_with fail
          go_roundg (n + 1 - (i + 1))
          case measure => omega
          case rel => exact ⟨i + 1, by go_num, by omega, by omega, (show _ ∧ _ from ⟨HI.out.1.trans ((Kp.refl _).drewN _), HX.out⟩)⟩
        · have y2 : ((x : Int) != (y : Int)) = true := by rw [bne_iff_ne]; omega
          have HX : Hid (r = false) := by
            show r = false
            rw [HR.out]
            exact decide_eq_false (fun e => exy (by rw [e, hy] at hx; injection hx with hx; exact hx.symm))
          have HK : Hid (∀ q, Kp w (wr.drewN q)) := fun q => HI.out.1.drewN q
          clear hx hy exy HI
          go_wp2_with fail
          go_quiet (fail)
          go_wp2_with fail
          go_ret
          exact ⟨by rw [HX.out]; rfl, HK.out _⟩
      · have z1 : ¬ (i : Int) < (n : Int) := by omega
        have HX : Hid (r = true ∧ Kp w wr) := by
          refine ⟨?_, HI.out.1⟩
          rw [HR.out]
          refine decide_eq_true (List.ext_getElem? fun j => ?_)
          by_cases hj : j < i
          · exact HI.out.2 j hj
          · rw [List.getElem?_eq_none (by have := HN.out.1; omega), List.getElem?_eq_none (by have := HN.out.2.1; have := hc.out; omega)]
        clear HI
        go_wp2_with fail
        go_ret
        exact ⟨by rw [HX.out.1]; rfl, HX.out.2⟩
  · have y1 : ((n : Int) != (m : Int)) = true := by rw [bne_iff_ne]; omega
    have HX : Hid (r = false) := by
      show r = false
      rw [hr]
      exact decide_eq_false (fun e => c (by rw [hn, hm2, e]))
    clear hr h1 h2 hn hm2 c hl HR HN
    go_enter Tryd.func11, Tryd.ntmps11
    go_wp2_with fail
    go_ret
    exact ⟨by rw [HX.out]; rfl, Kp.refl _⟩

end Go.Proofs.YthkkcnnlfjchaaaDoor
