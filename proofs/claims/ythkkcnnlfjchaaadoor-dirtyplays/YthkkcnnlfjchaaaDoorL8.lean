/- dirty: pages, Collect. -/
import Derived.Test.YthkkcnnlfjchaaaDoorL7
import Derived.Deep.LoopGhost
namespace Go.Proofs.YthkkcnnlfjchaaaDoor
open Go.RowKit Go.Maps Go.Sort Go.Shelf
set_option maxRecDepth 10000

section
variable {w w' : World} {p bm : Nat} {on : Bool} {W : Nat → Nat} {K : List Nat}
/-- L tells the pages of W, rising. -/
def Tells (W : Nat → Nat) (L : List Nat) : Prop := L.Pairwise (· < ·) ∧ ∀ q, q ∈ L ↔ hasW W q = true
theorem hasW_key (h : DLg w p bm on W K) {q : Nat} (hq : hasW W q = true) : q / 64 ∈ K := Classical.byContradiction fun c => by
  unfold hasW at hq
  rw [h.m.out _ c] at hq
  simp at hq
theorem takeSnoc {M : List Nat} {i x : Nat} (h : M[i]? = some x) : M.take (i + 1) = M.take i ++ [x] := by
  rw [List.take_add_one, h]; rfl
theorem take_less {M : List Nat} {i x : Nat} (hr : M.Pairwise (· < ·)) (h : M[i]? = some x) : ∀ k ∈ M.take i, k < x := fun k hk => by
  obtain ⟨j, hj, rfl⟩ := List.mem_iff_getElem.1 hk
  have hj2 : j < i := by simp at hj; omega
  obtain ⟨hi, e⟩ := List.getElem?_eq_some_iff.1 h
  rw [List.getElem_take, ← e]
  exact (List.pairwise_iff_getElem.1 hr) j i _ hi hj2
set_option maxHeartbeats 8000000 in
theorem dpages_any (h : DLg w p bm on W K) (T : TAB w) (hK : K.length ≤ 1000) :
    Calls Tryd.prog 24 #[.pointer (some ⟨p, 0, none⟩)] w fun e w' => ∃ na L cap, e = .returned (.slice na L.length cap) ∧ AX LTw w' w.heap.size (.slice na L.length cap) L ∧ Tells W L ∧ L.length ≤ 64000 ∧ Kp w w' := by
  have c1 := h.c1
  have k1 := keysW_any bm w
  have k2 := sortedW_any bm w h.m (by omega)
  have HH : Hid (DLg w p bm on W K ∧ TAB w ∧ K.length ≤ 1000) := ⟨h, T, hK⟩
  clear h T hK
  go_enter Tryd.func24, Tryd.ntmps24
  go_wp2_with fail
  with_reducible refine k1.mono ?_
  rintro e w1 ⟨rfl, rfl⟩
  clear k1
  go_wp2_with fail
  with_reducible refine k2.mono ?_
  rintro e wS ⟨v, M, rfl, pm, rM, ax, kw⟩
  clear k2 c1
  have hml := pm.length_eq
  obtain ⟨na, cap, rfl, _, _, hc⟩ := ax.form okT_w64
  obtain ⟨m, hm⟩ : ∃ m, m = M.length := ⟨_, rfl⟩
  have HM : Hid (m = M.length ∧ M.Perm K ∧ M.Pairwise (· < ·) ∧ Kp w wS) := by
    refine ⟨hm, pm, ?_, kw⟩
    have nd : M.Nodup := pm.nodup_iff.2 HH.out.1.m.nd
    exact (rM.and nd).imp (fun {a b} hh => by have h1 := hh.1; have h2 := hh.2; omega)
  have HC : Hid (∀ (i x : Nat), M[i]? = some x → ∃ g, na = some ⟨g, 0, none⟩ ∧ g < wS.heap.size ∧ wS.cell? ⟨g, i, none⟩ = some (.int .u64 (x : Int))) := fun i x hx => by
    obtain ⟨g, e1, e2, _, e4⟩ := hc i x hx
    refine ⟨g, e1, e2, ?_⟩
    have := e4 0 _ rfl
    rw [show i * LTw.sz + 0 = i from Nat.mul_one i] at this
    exact this
  have bm' : (m : Int) ≤ 1000 := by have := HH.out.2.2; omega
  rw [← hm]
  clear ax rM pm kw hc hml hm
  go_wp2_with fail
  go_loopg [3, 14] (m + 1) (fun gg v3 v14 wr => ∃ (i : Nat) (no : Option Addr) (co : Nat) (L : List Nat), v3 = .slice no L.length co ∧ v14 = .int .i64 (i : Int) ∧ i ≤ m ∧ m + 1 - i ≤ gg ∧ Hid (Kp wS wr ∧ AX LTw wr wS.heap.size (.slice no L.length co) L ∧ PGd W (M.take i) i L))
  case atStart => exact ⟨0, none, 0, [], rfl, rfl, by omega, by omega, (show _ ∧ _ ∧ _ from ⟨Kp.refl _, AX.nil _ _, PGd.start W⟩)⟩
  case round =>
    obtain ⟨i, no, co, L, rfl, rfl, him, hg, HI⟩ := hrel
    obtain ⟨n, hn⟩ : ∃ n, n = L.length := ⟨_, rfl⟩
    by_cases hlt : i < m
    · have zlt : (i : Int) < (m : Int) := by omega
      obtain ⟨key, hkey⟩ : ∃ x, M[i]? = some x := ⟨_, List.getElem?_eq_getElem (by have := HM.out.1; omega)⟩
      have HKy := hid_as hkey
      obtain ⟨g, rfl, hgl, hce⟩ := HC.out i key hkey
      have hce : wr.cell? ⟨g, i, none⟩ = some (.int .u64 (key : Int)) := (HI.out.1.cell (p := ⟨g, i, none⟩) hgl).trans hce
      have hD := HH.out.1.kp (HM.out.2.2.2.trans HI.out.1)
      have hkK : key ∈ K := HM.out.2.1.mem_iff.1 (List.mem_of_getElem? hkey)
      have hkt := hD.top key hkK
      have c1 := hD.c1
      have l1 := hD.m.look key (by omega)
      have HK2 : Hid (key < 288230376151711744 ∧ ∀ y, W y < 18446744073709551616) := ⟨hkt, hD.low⟩
      have HP : Hid (PGs W (M.take i) i key (W key) L) := HI.out.2.2.word (take_less HM.out.2.2.1 hkey)
      have HL : Hid (∀ k ∈ M.take i, k < key) := take_less HM.out.2.2.1 hkey
      clear hkey hD hkK hkt hn n
      obtain ⟨x, hx⟩ : ∃ x, x = W key := ⟨_, rfl⟩
      rw [← hx] at l1 HP
      have hxl := hid_as (show x < 18446744073709551616 by rw [hx]; exact HK2.out.2 key)
      clear hx
      go_wp2_with fail
      go_loopg [3, 6] x (fun gx v3 v6 wr => ∃ (x : Nat) (no : Option Addr) (co : Nat) (L : List Nat), v3 = .slice no L.length co ∧ v6 = .int .u64 (x : Int) ∧ x ≤ gx ∧ Hid (x < 18446744073709551616 ∧ Kp wS wr ∧ AX LTw wr wS.heap.size (.slice no L.length co) L ∧ PGs W (M.take i) i key x L))
      case atStart => exact ⟨x, no, co, L, rfl, rfl, Nat.le_refl _, (show _ ∧ _ ∧ _ ∧ _ from ⟨hxl.out, HI.out.1, HI.out.2.1, HP.out⟩)⟩
      case round =>
        clear HI HP hxl l1 c1 hce
        obtain ⟨x, no, co, L, rfl, rfl, hgx, HX⟩ := hrel
        by_cases h0 : x = 0
        · have y0 : ((x : Int) != 0) = false := by rw [h0]; rfl
          have y1 : ((x : Int) == 0) = true := by rw [h0]; rfl
          have HR : Hid (Kp wS wr ∧ AX LTw wr wS.heap.size (.slice no L.length co) L ∧ PGd W (M.take (i + 1)) (i + 1) L) := by
            refine ⟨HX.out.2.1, HX.out.2.2.1, ?_⟩
            have h4 := HX.out.2.2.2
            rw [h0] at h4
            rw [takeSnoc HKy.out]
            exact h4.done
          clear HX h0
          go_wp2_with fail
          go_roundg (m + 1 - (i + 1))
          case measure => omega
          case rel => exact ⟨i + 1, no, co, L, rfl, by go_num, by omega, by omega, HR⟩
        · have y0 : ((x : Int) != 0) = true := by simpa using h0
          have y1 : ((x : Int) == 0) = false := by simpa using h0
          obtain ⟨t, r, ht, hx⟩ := odd_of 64 x HX.out.1 (by omega)
          have ct := tz_ok (HH.out.2.1.kp (HM.out.2.2.2.trans HX.out.2.1)) x t r HX.out.1 ht hx
          obtain ⟨k64, hk64⟩ : ∃ k, k = key * 64 := ⟨_, rfl⟩
          obtain ⟨pg, hpg⟩ : ∃ k, k = k64 + t := ⟨_, rfl⟩
          obtain ⟨x1, hx1⟩ : ∃ k, k = x - 1 := ⟨_, rfl⟩
          obtain ⟨x2, hx2⟩ : ∃ k, k = x &&& x1 := ⟨_, rfl⟩
          have hkl := HK2.out.1
          have hxl := HX.out.1
          have z1 : (key : Int) * 64 = (k64 : Int) := by omega
          have z2 : (k64 : Int) + (t : Int) = (pg : Int) := by omega
          have w1 : IntKind.u64.wrap (k64 : Int) = (k64 : Int) := wrap_w64 (by omega)
          have w2 : IntKind.u64.wrap (pg : Int) = (pg : Int) := wrap_w64 (by omega)
          have w3 : IntKind.u64.wrap (t : Int) = (t : Int) := wrap_w64 (by omega)
          have z3 : (x : Int) - 1 = (x1 : Int) := by omega
          have w4 : IntKind.u64.wrap (x1 : Int) = (x1 : Int) := wrap_w64 (by omega)
          have z4 : bits .and .u64 (x : Int) (x1 : Int) = (x2 : Int) := by rw [hx2]; exact u64_and_nat x x1 hxl (by omega)
          have hst := HX.out.2.2.2.step HL.out ht hx
          rw [← hx1, ← hx2, ← hk64, ← hpg] at hst
          have hx2l : x2 < x := by rw [hx2, hx1]; exact and_less h0
          have HS := hid_as hst
          have HX2 := hid_as hx2l
          have HXL := hid_as hxl
          clear hst hx1 hx2 hk64 hpg hkl hx ht hxl hx2l h0
          obtain ⟨n, hn⟩ : ∃ n, n = L.length := ⟨_, rfl⟩
          have Hn := hid_as hn
          have ax := HX.out.2.2.1
          have kr := HM.out.2.2.2.trans HX.out.2.1
          have kx := HX.out.2.1
          have hnl : n ≤ 64000 := by
            obtain ⟨c, c1, c2, _⟩ := HX.out.2.2.2.cnt
            have := HH.out.2.2
            have := HM.out.1
            have := HM.out.2.1.length_eq
            omega
          rw [← hn] at ax ⊢
          clear HX hn
          have ka : Kp wr (wr.alloc (.cells #[.int .u64 (pg : Int)] 29)) := (Kp.refl _).alloc _
          have s1 : AS LTw (wr.alloc (.cells #[.int .u64 (pg : Int)] 29)) (some ⟨wr.heap.size, 0, none⟩) [pg] := AS.made wr [pg]
          obtain ⟨na2, n2, cap2, w5, r5, hn2, o5, f5, k5, _⟩ := (ax.kp ka).app okT_w64 (kx.trans ka).size s1 (m := 1) (c := 1) rfl (fun e => by cases e) (by have := Hn.out; simp; omega) 26
          have r5' : (Builtin.append_ #[26, 26] 26 #[.slice no n co, .slice (some ⟨wr.heap.size, 0, none⟩) 1 1]).run Tryd.prog (wr.alloc (.cells #[.int .u64 (pg : Int)] 29)) = .ok (.slice na2 n2 cap2) w5 := r5
          have HR : Hid (x2 < 18446744073709551616 ∧ Kp wS w5 ∧ AX LTw w5 wS.heap.size (.slice na2 (L ++ [pg]).length cap2) (L ++ [pg]) ∧ PGs W (M.take i) i key x2 (L ++ [pg])) := by
            exact ⟨by have := HX2.out; have := HXL.out; omega, k5 wS (Nat.le_refl _) (kx.trans ka), by rw [← hn2]; exact o5, HS.out⟩
          clear ax ka s1 r5 o5 f5 k5 kr kx hnl
          have HN2 := hid_as hn2
          clear hn2
          repeat' (first | (go_at_call 29; with_reducible refine ct.mono ?_; rintro e w' ⟨rfl, rfl⟩) | ((with_reducible refine wp_append_of r5' (.tmp 30) (.tmp 37) ?_ ?_ ?_ ?_ ?_); rfl; rfl; rfl; rfl) | go_values | go_skip | go_guarded | go_step | go_upon | go_back | (simp only []) | (go_values <;> (try go_simp)) | (go_ite <;> go_prune <;> (try go_simp)))
          go_roundg x2
          case measure => have := HX2.out; omega
          case rel => exact ⟨x2, na2, cap2, L ++ [pg], by rw [← HN2.out], rfl, by omega, HR⟩
    · have zlt : ¬ (i : Int) < (m : Int) := by omega
      have HR : Hid (AX LTw wr w.heap.size (.slice no L.length co) L ∧ Tells W L ∧ L.length ≤ 64000 ∧ Kp w wr) := by
        have hP := HI.out.2.2
        have hl := HM.out.2.1.length_eq
        refine ⟨HI.out.2.1.low HM.out.2.2.2.size, ⟨hP.up, fun q => ?_⟩, by have := hP.cnt; have := HM.out.1; have := HH.out.2.2; omega, HM.out.2.2.2.trans HI.out.1⟩
        rw [hP.mem, show M.take i = M from List.take_of_length_le (by have := HM.out.1; omega)]
        exact ⟨fun c => c.2, fun c => ⟨HM.out.2.1.mem_iff.2 (hasW_key HH.out.1 c), c⟩⟩
      clear HI
      go_wp2_with fail
      go_ret
      exact ⟨no, L, co, rfl, HR.out⟩
set_option maxHeartbeats 4000000 in
/-- Collect. -/
theorem dcoll_off (h : DLg w p bm false W K) : Calls Tryd.prog 9 #[.pointer (some ⟨p, 0, none⟩)] w fun e w' => e = .returned (.tuple #[.slice none 0 0, .int .i64 20]) ∧ w' = w := by
  have c0 := h.c0
  clear h
  go_enter Tryd.func9, Tryd.ntmps9
  go_wp2_with fail
  go_ret2
  exact ⟨rfl, rfl⟩
set_option maxHeartbeats 4000000 in
theorem dcoll_on (h : DLg w p bm true W K) (T : TAB w) (hK : K.length ≤ 1000) : Calls Tryd.prog 9 #[.pointer (some ⟨p, 0, none⟩)] w fun e w' => ∃ na L cap, e = .returned (.tuple #[.slice na L.length cap, .int .i64 0]) ∧ AX LTw w' w.heap.size (.slice na L.length cap) L ∧ Tells W L ∧ L.length ≤ 64000 ∧ ∃ bm', DLg w' p bm' true (fun _ => 0) [] ∧ w.heap.size ≤ bm' ∧ (∀ o, (Value.slice na L.length cap).ownBlock = some o → o < bm') ∧ Fr (· = p) w w' := by
  have c0 := h.c0
  have cp := dpages_any h T hK
  have H := hid_as h
  clear h T hK
  go_enter Tryd.func9, Tryd.ntmps9
  go_wp2_with fail
  with_reducible refine cp.mono ?_
  rintro e w1 ⟨na, L, cap, rfl, ax, tl, ll, k1⟩
  clear cp c0
  have ce := empty_any (H.out.kp k1)
  have HX : Hid (AX LTw w1 w.heap.size (.slice na L.length cap) L ∧ Tells W L ∧ L.length ≤ 64000 ∧ Kp w w1) := ⟨ax, tl, ll, k1⟩
  clear ax tl ll k1
  go_wp2_with fail
  with_reducible refine ce.mono ?_
  rintro e w2 ⟨rfl, bm', hd, hb, hf⟩
  have HR : Hid (AX LTw w2 w.heap.size (.slice na L.length cap) L ∧ Tells W L ∧ L.length ≤ 64000 ∧ ∃ bm', DLg w2 p bm' true (fun _ => 0) [] ∧ w.heap.size ≤ bm' ∧ (∀ o, (Value.slice na L.length cap).ownBlock = some o → o < bm') ∧ Fr (· = p) w w2) := by
    have hpl := H.out.lt
    refine ⟨HX.out.1.fr hf (fun g h1 _ _ e => by have e : g = p := e; omega), HX.out.2.1, HX.out.2.2.1, bm', hd, Nat.le_trans HX.out.2.2.2.size hb, fun o ho => Nat.lt_of_lt_of_le (HX.out.1.up o ho).2 hb, (HX.out.2.2.2.fr _).trans hf⟩
  clear ce hd hb hf HX
  go_wp2_with fail
  go_ret2
  exact ⟨na, L, cap, rfl, HR.out⟩
end

end Go.Proofs.YthkkcnnlfjchaaaDoor
