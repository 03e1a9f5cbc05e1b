/- rmap: the order of places; slices.SortedFunc over a set. -/
import Derived.Test.YtfpmakmemmnbkaaA4
import Derived.Test.YtfpmakmemmnbkaaAG
import Derived.Deep.RegionHeld3
namespace Go.Proofs.Ytfpmakmemmnbkaa
open Go.RowKit Go.Sort Go.Shelf

/-! ### worlds by draws and new blocks alone -/
def Gw (w w' : World) : Prop := ∃ q os, w' = grow (w.drewN q) os
theorem Gw.refl (w : World) : Gw w w := ⟨0, #[], by rw [grow_empty]; rfl⟩
theorem Gw.trans {a b c : World} (h : Gw a b) (k : Gw b c) : Gw a c := by
  obtain ⟨q, os, rfl⟩ := h; obtain ⟨q', os', rfl⟩ := k
  exact ⟨q + q', os ++ os', by show grow (grow ((a.drewN q).drewN q') os) os' = _; rw [grow_grow, World.drewN_drewN]⟩
theorem Gw.alloc (w : World) (o : Obj) : Gw w (w.alloc o) := ⟨0, #[o], by rw [alloc_eq_grow]; rfl⟩
theorem Gw.drew (w : World) : Gw w w.drew := ⟨1, #[], by rw [grow_empty]; rfl⟩

/-! ### comparing -/
def cmpI (a b : Int) : Int := if a < b then -1 else if b < a then 1 else 0
def orI (a b : Int) : Int := if a = 0 then b else a
def cfP (x y : PLc) : Int := orI (cmpI x.1 y.1) (cmpI x.2 y.2)
set_option maxHeartbeats 2000000 in
theorem nan_int (a : Int) (w : World) : Calls Try.prog 38 #[.int .i64 a] w fun e w' => e = .returned (.bool false) ∧ w' = w := by
  go_enter Try.func38, Try.ntmps38
  go_wp2_with fail
  go_ret
  exact ⟨by simp, rfl⟩
set_option maxHeartbeats 2000000 in
theorem nan_word (a : Int) (w : World) : Calls Try.prog 39 #[.int .u64 a] w fun e w' => e = .returned (.bool false) ∧ w' = w := by
  go_enter Try.func39, Try.ntmps39
  go_wp2_with fail
  go_ret
  exact ⟨by simp, rfl⟩
set_option maxHeartbeats 2000000 in
theorem comp_int (a b : Int) (w : World) : Calls Try.prog 30 #[.int .i64 a, .int .i64 b] w fun e w' => e = .returned (.int .i64 (cmpI a b)) ∧ w' = w := by
  have n1 := fun w => nan_int a w
  have n2 := fun w => nan_int b w
  unfold cmpI
  go_enter Try.func30, Try.ntmps30
  by_cases c1 : a < b
  · rw [if_pos c1]
    go_wp2_with fail
    with_reducible refine (n1 _).mono ?_
    rintro e w' ⟨rfl, rfl⟩
    go_wp2_with fail
    with_reducible refine (n2 _).mono ?_
    rintro e w' ⟨rfl, rfl⟩
    clear n1 n2
    go_wp2_with fail
    go_ret
    exact ⟨rfl, rfl⟩
  · rw [if_neg c1]
    by_cases c2 : b < a
    · rw [if_pos c2]
      go_wp2_with fail
      with_reducible refine (n1 _).mono ?_
      rintro e w' ⟨rfl, rfl⟩
      go_wp2_with fail
      with_reducible refine (n2 _).mono ?_
      rintro e w' ⟨rfl, rfl⟩
      clear n1 n2
      go_wp2_with fail
      go_ret
      exact ⟨rfl, rfl⟩
    · rw [if_neg c2]
      go_wp2_with fail
      with_reducible refine (n1 _).mono ?_
      rintro e w' ⟨rfl, rfl⟩
      go_wp2_with fail
      with_reducible refine (n2 _).mono ?_
      rintro e w' ⟨rfl, rfl⟩
      clear n1 n2
      go_wp2_with fail
      go_ret
      exact ⟨rfl, rfl⟩
set_option maxHeartbeats 2000000 in
theorem comp_word (a b : Int) (w : World) : Calls Try.prog 31 #[.int .u64 a, .int .u64 b] w fun e w' => e = .returned (.int .i64 (cmpI a b)) ∧ w' = w := by
  have n1 := fun w => nan_word a w
  have n2 := fun w => nan_word b w
  unfold cmpI
  go_enter Try.func31, Try.ntmps31
  by_cases c1 : a < b
  · rw [if_pos c1]
    go_wp2_with fail
    with_reducible refine (n1 _).mono ?_
    rintro e w' ⟨rfl, rfl⟩
    go_wp2_with fail
    with_reducible refine (n2 _).mono ?_
    rintro e w' ⟨rfl, rfl⟩
    clear n1 n2
    go_wp2_with fail
    go_ret
    exact ⟨rfl, rfl⟩
  · rw [if_neg c1]
    by_cases c2 : b < a
    · rw [if_pos c2]
      go_wp2_with fail
      with_reducible refine (n1 _).mono ?_
      rintro e w' ⟨rfl, rfl⟩
      go_wp2_with fail
      with_reducible refine (n2 _).mono ?_
      rintro e w' ⟨rfl, rfl⟩
      clear n1 n2
      go_wp2_with fail
      go_ret
      exact ⟨rfl, rfl⟩
    · rw [if_neg c2]
      go_wp2_with fail
      with_reducible refine (n1 _).mono ?_
      rintro e w' ⟨rfl, rfl⟩
      go_wp2_with fail
      with_reducible refine (n2 _).mono ?_
      rintro e w' ⟨rfl, rfl⟩
      clear n1 n2
      go_wp2_with fail
      go_ret
      exact ⟨rfl, rfl⟩
theorem cmpI_cases (a b : Int) : cmpI a b = -1 ∨ cmpI a b = 0 ∨ cmpI a b = 1 := by
  unfold cmpI
  split
  · exact .inl rfl
  · split
    · exact .inr (.inr rfl)
    · exact .inr (.inl rfl)
set_option maxHeartbeats 4000000 in
theorem or_two (g : Nat) (a b : Int) (w : World) (h0 : w.cell? ⟨g, 0, none⟩ = some (.int .i64 a)) (h1 : w.cell? ⟨g, 1, none⟩ = some (.int .i64 b)) :
    Calls Try.prog 29 #[.slice (some ⟨g, 0, none⟩) 2 2] w fun e w' => e = .returned (.int .i64 (orI a b)) ∧ w' = w := by
  obtain ⟨z, hz⟩ : ∃ z, z = orI a b := ⟨_, rfl⟩
  rw [← hz]
  have z0 : a ≠ 0 → z = a := fun c => by rw [hz]; exact if_neg c
  have z1 : a = 0 → z = b := fun c => by rw [hz]; exact if_pos c
  have HZ : Hid ((a ≠ 0 → z = a) ∧ (a = 0 → z = b)) := ⟨z0, z1⟩
  clear hz z0 z1
  go_enter Try.func29, Try.ntmps29
  go_wp2_with fail
  go_loopg [8] 3 (fun gg v8 wr => ∃ i : Nat, v8 = .int .i64 (i : Int) ∧ 3 - i ≤ gg ∧ wr = w ∧ (i = 0 ∨ (i = 1 ∧ a = 0) ∨ (i = 2 ∧ a = 0 ∧ b = 0)))
  case atStart => exact ⟨0, rfl, by omega, rfl, .inl rfl⟩
  case round =>
    obtain ⟨i, rfl, hg, rfl, hi⟩ := hrel
    rcases hi with rfl | ⟨rfl, c0⟩ | ⟨rfl, c0, c1⟩
    · by_cases c : a = 0
      · have y : (a == 0) = true := by simpa using c
        have HC : Hid (a = 0) := c
        clear c
        go_wp2_with fail
        go_roundg 2
        case measure => omega
        case rel => exact ⟨1, by go_num, by omega, rfl, .inr (.inl ⟨rfl, HC.out⟩)⟩
      · have y : (a == 0) = false := by simpa using c
        have E : Hid (z = a) := HZ.out.1 c
        clear c
        go_wp2_with fail
        go_ret
        exact ⟨by rw [E.out]; rfl, rfl⟩
    · have E : Hid (z = b ∧ a = 0) := ⟨HZ.out.2 c0, c0⟩
      clear c0
      by_cases c : b = 0
      · have y : (b == 0) = true := by simpa using c
        have HC : Hid (b = 0) := c
        clear c
        go_wp2_with fail
        go_roundg 1
        case measure => omega
        case rel => exact ⟨2, by go_num, by omega, rfl, .inr (.inr ⟨rfl, E.out.2, HC.out⟩)⟩
      · have y : (b == 0) = false := by simpa using c
        clear c
        go_wp2_with fail
        go_ret
        exact ⟨by rw [E.out.1]; rfl, rfl⟩
    · have E : Hid (z = 0) := by show z = 0; rw [HZ.out.2 c0, c1]
      clear c0 c1
      go_wp2_with fail
      go_ret
      exact ⟨by rw [E.out]; rfl, rfl⟩
set_option maxHeartbeats 4000000 in
theorem cmp_place (x y : PLc) (w : World) : Calls Try.prog 23 #[plV x, plV y] w fun e w' => e = .returned (.int .i64 (cfP x y)) ∧ Gw w w' := by
  obtain ⟨a, b⟩ := x
  obtain ⟨c, d⟩ := y
  have k1 := fun w => comp_int a c w
  have k2 := fun w => comp_word b d w
  have k3 : ∀ g w, w.cell? ⟨g, 0, none⟩ = some (.int .i64 (cmpI a c)) → w.cell? ⟨g, 1, none⟩ = some (.int .i64 (cmpI b d)) → Calls Try.prog 29 #[.slice (some ⟨g, 0, none⟩) 2 2] w fun e w' => e = .returned (.int .i64 (cfP (a, b) (c, d))) ∧ w' = w := fun g w h0 h1 => or_two g _ _ w h0 h1
  generalize cfP (a, b) (c, d) = z at *
  generalize cmpI a c = m at *
  generalize cmpI b d = n at *
  unfold plV
  dsimp only
  go_enter Try.func23, Try.ntmps23
  go_wp2_with fail
  obtain ⟨w1, hw1⟩ : ∃ w1, w1 = (w.alloc (.cells #[.int .i64 a, .int .u64 b] 31)).alloc (.cells #[.int .i64 c, .int .u64 d] 31) := ⟨_, rfl⟩
  obtain ⟨b2, hb2⟩ : ∃ b2, b2 = w.heap.size := ⟨_, rfl⟩
  obtain ⟨b3, hb3⟩ : ∃ b3, b3 = w.heap.size + 1 := ⟨_, rfl⟩
  rw [← hw1, ← hb3, ← hb2]
  have G1 : Hid (Gw w w1) := by show Gw w w1; rw [hw1]; exact (Gw.alloc w _).trans (Gw.alloc _ _)
  have r2 : w1.heap[b2]? = some (.cells #[.int .i64 a, .int .u64 b] 31 (0, 0)) := by
    rw [hw1, hb2]; exact (Below.heap_alloc _ _ _ (by simp)).trans (heap_alloc_new w _)
  have r3 : w1.heap[b3]? = some (.cells #[.int .i64 c, .int .u64 d] 31 (0, 0)) := by
    rw [hw1, hb3]; have := heap_alloc_new (w.alloc (.cells #[.int .i64 a, .int .u64 b] 31)) (.cells #[.int .i64 c, .int .u64 d] 31); rwa [World.size_alloc] at this
  have f0 : w1.cell? ⟨b2, 0, none⟩ = some (.int .i64 a) := by rw [cell_of_row _ _ 0 _ _ _ r2]; rfl
  have f1 : w1.cell? ⟨b2, 1, none⟩ = some (.int .u64 b) := by rw [cell_of_row _ _ 1 _ _ _ r2]; rfl
  have f2 : w1.cell? ⟨b3, 0, none⟩ = some (.int .i64 c) := by rw [cell_of_row _ _ 0 _ _ _ r3]; rfl
  have f3 : w1.cell? ⟨b3, 1, none⟩ = some (.int .u64 d) := by rw [cell_of_row _ _ 1 _ _ _ r3]; rfl
  have l2 : b2 < w1.heap.size := (Array.getElem?_eq_some_iff.1 r2).1
  have l3 : b3 < w1.heap.size := (Array.getElem?_eq_some_iff.1 r3).1
  have k4 : Aside (Calls Try.prog 29 #[.slice (some ⟨w1.heap.size, 0, none⟩) 2 2] (w1.alloc (.cells #[.int .i64 m, .int .i64 n] 3)).drew fun e w' => e = .returned (.int .i64 z) ∧ w' = (w1.alloc (.cells #[.int .i64 m, .int .i64 n] 3)).drew) :=
    k3 w1.heap.size _ (by rw [cell_of_row _ _ 0 _ _ _ (show (w1.alloc (.cells #[.int .i64 m, .int .i64 n] 3)).drew.heap[w1.heap.size]? = _ from heap_alloc_new w1 _)]; rfl) (by rw [cell_of_row _ _ 1 _ _ _ (show (w1.alloc (.cells #[.int .i64 m, .int .i64 n] 3)).drew.heap[w1.heap.size]? = _ from heap_alloc_new w1 _)]; rfl)
  have G2 : Hid (Gw w (w1.alloc (.cells #[.int .i64 m, .int .i64 n] 3)).drew) := (G1.out.trans (Gw.alloc _ _)).trans (Gw.drew _)
  clear hw1 hb2 hb3 r2 r3 k3 G1
  go_region_held3 (fun v => v.cell? ⟨b2, 0, none⟩ = some (.int .i64 a) ∧ v.cell? ⟨b2, 1, none⟩ = some (.int .u64 b) ∧ v.cell? ⟨b3, 0, none⟩ = some (.int .i64 c) ∧ v.cell? ⟨b3, 1, none⟩ = some (.int .u64 d))
    (first | go_keep | trace_state)
    (first | (go_at_call 30; with_reducible refine (k1 _).mono ?_; rintro e w' ⟨rfl, rfl⟩) | (go_at_call 31; with_reducible refine (k2 _).mono ?_; rintro e w' ⟨rfl, rfl⟩) | (go_at_call 29; with_reducible refine k4.out.mono ?_; rintro e w' ⟨rfl, rfl⟩))
  clear k1 k2 k4
  go_wp2_with fail
  go_ret
  exact ⟨rfl, G2.out⟩

/-! ### the order -/
def ltP (x y : PLc) : Prop := x.1 < y.1 ∨ (x.1 = y.1 ∧ x.2 < y.2)
theorem cf_lt (x y : PLc) : ltOf cfP x y = true ↔ ltP x y := by
  unfold ltOf cfP orI cmpI ltP
  rw [decide_eq_true_iff]
  split <;> split <;> (try split) <;> (try split) <;> (try split) <;> omega
theorem cf_nlt (x y : PLc) : ltOf cfP x y = false ↔ ¬ ltP x y := by rw [← cf_lt]; simp
theorem cf_swo : SWO (ltOf cfP) := {
  irrefl := fun x => (cf_nlt x x).2 (by unfold ltP; omega)
  trans := fun x y z h1 h2 => (cf_lt x z).2 (by have h1 := (cf_lt x y).1 h1; have h2 := (cf_lt y z).1 h2; unfold ltP at *; omega)
  ntrans := fun x y z h1 h2 => (cf_nlt x z).2 (by have h1 := (cf_nlt x y).1 h1; have h2 := (cf_nlt y z).1 h2; unfold ltP at *; omega) }
theorem cf_tot (x y : PLc) (h1 : ltOf cfP x y = false) (h2 : ltOf cfP y x = false) : x = y := by
  have h1 := (cf_nlt x y).1 h1
  have h2 := (cf_nlt y x).1 h2
  unfold ltP at *
  exact Prod.ext (by omega) (by omega)
/-- The places, by their order. -/
def srtP (L : List PLc) : List PLc := L.mergeSort fun x y => !(ltOf cfP) y x
theorem srtP_perm (L : List PLc) : (srtP L).Perm L := List.mergeSort_perm L _
theorem srtP_len (L : List PLc) : (srtP L).length = L.length := (srtP_perm L).length_eq
theorem srtP_rise (L : List PLc) : (srtP L).Pairwise fun x y => ltOf cfP y x = false :=
  (List.pairwise_mergeSort (le := fun x y => !(ltOf cfP) y x) (fun a b c h1 h2 => by
    simp only [Bool.not_eq_true'] at *
    exact cf_swo.ntrans _ _ _ h2 h1) (fun a b => by
    cases h : ltOf cfP b a
    · simp
    · cases h' : ltOf cfP a b
      · simp
      · have h := (cf_lt b a).1 h; have h' := (cf_lt a b).1 h'; unfold ltP at *; omega) L).imp (by simp)
theorem srtP_of {L M : List PLc} (p : L.Perm M) (h : L.Pairwise fun x y => ltOf cfP y x = false) : L = srtP M := by
  refine (p.trans (srtP_perm M).symm).eq_of_pairwise (le := fun x y => ltOf cfP y x = false) (fun a b _ _ h1 h2 => cf_tot a b h2 h1) h (srtP_rise M)
theorem srtP_like {L M : List PLc} (p : L.Perm M) : srtP L = srtP M := srtP_of ((srtP_perm L).trans p) (srtP_rise L)

/-! ### a row of places, sorted -/
theorem flat_at (L : List PLc) (j : Nat) (hj : j < L.length * 2) : (L.flatMap LTp.enc)[j]? = some ((flatK LTp.enc 2 L.toArray)[j]!) := by
  rw [get_flatK _ _ _ _ (by simpa using hj)]
  have hi : j / 2 < L.length := by omega
  have e : L.toArray[j / 2]! = L[j / 2] := by simp [hi]
  rw [e]
  have h := flat_get encL_place L (j / 2) (j % 2) L[j / 2] (List.getElem?_eq_getElem hi) (by omega)
  rw [show j / 2 * 2 + j % 2 = j by omega] at h
  rw [h]
  generalize L[j / 2] = x
  have : j % 2 = 0 ∨ j % 2 = 1 := by omega
  rcases this with c | c <;> rw [c] <;> rfl
theorem flat_list (L : List PLc) : (flatK LTp.enc 2 L.toArray).toList = L.flatMap LTp.enc := by
  apply List.ext_getElem?
  intro j
  by_cases hj : j < L.length * 2
  · rw [flat_at L j hj, Array.getElem?_toList]
    have hs : j < (flatK LTp.enc 2 L.toArray).size := by simpa using hj
    rw [Array.getElem?_eq_getElem hs, getElem!_pos _ j hs]
  · rw [List.getElem?_eq_none (by simpa using hj), List.getElem?_eq_none (by rw [flat_len encL_place]; omega)]
section
variable {w w' : World} {b g n cap : Nat} {L : List PLc}
theorem AX.holds (h : AX LTp w b (.slice (some ⟨g, 0, none⟩) n cap) L) : HoldsK LTp.enc 2 w g 0 L.toArray := by
  obtain ⟨hn, _⟩ := h.len
  subst hn
  intro j hj
  have hj' : j < L.length * 2 := by simpa using hj
  refine ⟨?_, ?_⟩
  · rw [Nat.zero_add]
    have := World.ownsRow.cellAt h.ol j hj'
    rw [this, flat_at L j hj']
    rfl
  · rw [Nat.zero_add]; exact h.ol.frz j
theorem heap_srt {nn : Nat} {os : Array Obj} {cur : Array Value} {e : TypeId} {fr : Nat × Nat} (d : Array Value) (hb : w.heap[g]? = some (.cells cur e fr)) :
    (grow (putRow id (Sort.ahead w nn) g 0 d) os).heap[g]? = some (.cells (putCells id 0 d cur) e fr) := by
  have hg : g < w.heap.size := (Array.getElem?_eq_some_iff.1 hb).1
  rw [heap_grow_old _ _ (by simpa using hg)]
  simp [putRow, mapBlock, Sort.ahead, Array.getElem?_modify, hb, onCells]
theorem fr_srt {nn : Nat} {os : Array Obj} (d : Array Value) : Fr (· = g) w (grow (putRow id (Sort.ahead w nn) g 0 d) os) := by
  refine ⟨rfl, rfl, rfl, by simp, fun k hk hne => ?_⟩
  rw [heap_grow_old _ _ (by simpa using hk)]
  have : g ≠ k := fun e => hne e.symm
  simp [putRow, mapBlock, Sort.ahead, Array.getElem?_modify, this]
theorem take_cells (cur d : Array Value) (h : d.size ≤ cur.size) : (putCells id 0 d cur).toList.take d.size = d.toList := by
  apply List.ext_getElem?
  intro j
  by_cases hj : j < d.size
  · rw [List.getElem?_take_of_lt hj, Array.getElem?_toList]
    simp [putCells, hj, show j < cur.size by omega]
  · rw [List.getElem?_take_eq_none (by omega), List.getElem?_eq_none (by simp; omega)]
theorem sortP_any (h : AX LTp w b (.slice (some ⟨g, 0, none⟩) n cap) L) (hl : L.length ≤ 2000000) :
    Calls Try.prog 27 #[.slice (some ⟨g, 0, none⟩) n cap, .func (.func 23) #[] #[]] w fun e w' => e = .returned (.tuple #[]) ∧ AX LTp w' b (.slice (some ⟨g, 0, none⟩) n cap) (srtP L) ∧ Fr (· = g) w w' := by
  obtain ⟨hn, hc⟩ := h.len
  subst hn
  have hg := (h.up g rfl)
  have hcmp : CmpLays Try.prog 23 #[] LTp.enc 2 cfP g 0 L.toArray.size w := fun m os dk _ x y => by
    exact cmp_place x y _
  have k := AnyQ.slices_SortFunc_total Ytfpmakmemmnbkaa.lsf 2 (fun w => by kernel_rfl) (fun w => by kernel_rfl) LTp.enc (fun _ => rfl) encL_place.one cfP cf_swo 23 #[] g 0 cap L.toArray w (enters_of Try.func23 (by kernel_rfl) rfl) hcmp h.holds hg.2 (by simp; omega) cf_tot
  refine k.mono ?_
  rintro e w' ⟨he, nn, os, rfl⟩
  refine ⟨he, ?_, fr_srt _⟩
  have hr := h.ol
  rcases hr.2 with ⟨h1, _⟩ | ⟨g', cap', cur, h1, h2, h3, h4, h5, h6, _⟩
  · cases h1
  · cases h1
    have hL : (srtP L).length = L.length := srtP_len L
    refine ⟨⟨by rw [flat_len encL_place]; rfl, .inr ⟨g, cap, _, by rw [hL], Nat.zero_le _, heap_srt _ h3, by rw [hL]; exact h4, h5, by simp [putCells, h6], ?_⟩⟩, fun k hk => by cases hk; exact ⟨hg.1, Nat.lt_of_lt_of_le hg.2 (fr_srt (w := w) (g := g) (nn := nn) (os := os) (flatK LTp.enc 2 (srtP L).toArray)).size⟩⟩
    have hsz : (flatK LTp.enc 2 (srtP L).toArray).size = (srtP L).length * 2 := by simp
    have := take_cells cur (flatK LTp.enc 2 (srtP L).toArray) (by rw [hsz, hL, h6]; exact Nat.mul_le_mul_right 2 h4)
    rw [hsz, flat_list] at this
    exact this
theorem hid_eq {α : Type} {a b : α} (h : a = b) : Hid (a = b) := h
theorem sortP_none (p : Option Addr) (cap : Nat) (fv : Value) (w : World) : Calls Try.prog 27 #[.slice p 0 cap, fv] w fun e w' => e = .returned (.tuple #[]) ∧ w' = w :=
  AnyF.slices_SortFunc_none Ytfpmakmemmnbkaa.lsf p cap fv w

/-! ### maps.Keys, slices.SortedFunc -/
set_option maxHeartbeats 1000000 in
theorem keysfn_any (m : Option Nat) (w : World) : Calls Try.prog 22 #[.map m] w fun e w' => e = .returned (.func (.func 28) #[] #[.pointer (some ⟨w.heap.size, 0, none⟩)]) ∧ w' = w.alloc (.cells #[.map m] 53) := by
  go_enter Try.func22, Try.ntmps22
  go_wp2_with fail
  go_ret
  exact ⟨rfl, rfl⟩
theorem collectP_any (m : Option Nat) (w0 : World) (hp : PSn w0 m L) (hl : L.length ≤ 2000000) :
    Calls Try.prog 26 #[.func (.func 28) #[] #[.pointer (some ⟨w0.heap.size, 0, none⟩)]] (w0.alloc (.cells #[.map m] 53)) fun e w' => ∃ v ss, e = .returned v ∧ ss.Perm L ∧ AX LTp w' w0.heap.size v ss ∧ (v = .slice none 0 0 ↔ ss = []) ∧ Kp w0 w' := by
  refine (callsIn_wide (n := 6)).1 ?_
  have ka : Kp w0 (w0.alloc (.cells #[.map m] 53)) := (Kp.refl w0).alloc _
  have hs : PSn (w0.alloc (.cells #[.map m] 53)) m L := hp.imp id (fun ⟨b, e, h⟩ => ⟨b, e, h.kp ka⟩)
  have hseq := keysP_gives Fence.wide 4 trivial rfl (by omega) w0.heap.size m L (w0.alloc (.cells #[.map m] 53)) (by simp) (by rw [cell_of_row _ _ 0 _ _ _ (heap_alloc_new w0 _)]; rfl) hs
  refine (collectP Fence.wide 6 trivial trivial rfl (by omega) _ _ trivial (enters_of Try.func28 (by kernel_rfl) rfl) _ _ hl _ hseq).mono ?_
  rintro e w' ⟨v, ss, rfl, hS, hrow, hnil, hb⟩
  have hb2 : Kp w0 w' := ka.trans hb
  refine ⟨v, ss, rfl, hS, ⟨?_, fun g hg => ?_⟩, hnil, hb2⟩
  · exact ownsRow_base_a hrow (Nat.zero_le _)
  · have := hrow.lt g hg
    exact ⟨Nat.le_trans ka.size this.1, this.2⟩
set_option maxHeartbeats 2000000 in
theorem sortedP_any (m : Option Nat) (w0 : World) (hp : PSn w0 m L) (hl : L.length ≤ 2000000) :
    Calls Try.prog 21 #[.func (.func 28) #[] #[.pointer (some ⟨w0.heap.size, 0, none⟩)], .func (.func 23) #[] #[]] (w0.alloc (.cells #[.map m] 53)) fun e w' => ∃ v, e = .returned v ∧ AX LTp w' w0.heap.size v (srtP L) ∧ Kp w0 w' := by
  have cC := collectP_any m w0 hp hl
  go_enter Try.func21, Try.ntmps21
  go_wp2_with fail
  with_reducible refine cC.mono ?_
  rintro e w1 ⟨v, ss, rfl, pm, ax, hnil, k1⟩
  clear cC
  have hlen := pm.length_eq
  have ES := hid_eq (srtP_like pm)
  obtain ⟨na, cap, rfl, _, hf, _⟩ := ax.form okT_place
  rcases hf with ⟨rfl, rfl, rfl⟩ | ⟨g, rfl, g1, g2⟩
  · have k3 := sortP_none none 0 (.func (.func 23) #[] #[]) w1
    have H : Hid (AX LTp w1 w0.heap.size (.slice none 0 0) (srtP []) ∧ Kp w0 w1) := ⟨by rw [show srtP [] = [] from List.length_eq_zero_iff.1 (srtP_len [])]; exact AX.nil _ _, k1⟩
    clear ax hnil k1 hlen pm hp
    rw [show ([] : List PLc).length = 0 from rfl]
    go_wp2_with fail
    with_reducible refine k3.mono ?_
    rintro e w2 ⟨rfl, rfl⟩
    clear k3
    go_wp2_with fail
    go_ret
    exact ⟨_, rfl, by rw [← ES.out]; exact H.out.1, H.out.2⟩
  · have k3 := sortP_any ax (by omega)
    have K1 : Hid (Kp w0 w1 ∧ w0.heap.size ≤ g) := ⟨k1, g1⟩
    clear ax hnil k1 hlen pm hp
    go_wp2_with fail
    with_reducible refine k3.mono ?_
    rintro e w2 ⟨rfl, a2, f2⟩
    have H : Hid (AX LTp w2 w0.heap.size (.slice (some ⟨g, 0, none⟩) ss.length cap) (srtP ss) ∧ Kp w0 w2) := ⟨a2, f2.kp K1.out.1 (fun i hi => by have e : i = g := hi; rw [e]; exact K1.out.2)⟩
    clear k3 a2 f2 K1
    go_wp2_with fail
    go_ret
    exact ⟨_, rfl, by rw [← ES.out]; exact H.out.1, H.out.2⟩
end

end Go.Proofs.Ytfpmakmemmnbkaa
