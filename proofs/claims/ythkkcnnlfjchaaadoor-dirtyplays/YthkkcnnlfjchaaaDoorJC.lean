/- slices.Sort of []uint64. -/
import Derived.Test.YthkkcnnlfjchaaaDoorJB
import Derived.Test.YthkkcnnlfjchaaaDoorAL
import Derived.Test.YthkkcnnlfjchaaaDoorU1
namespace Go.Proofs.YthkkcnnlfjchaaaDoor
open Go.RowKit Go.Sort

section
variable {w0 W : World} {g : Nat} {d0 d : Array Int}
/-! ### lists of words -/
def LTw : LT Nat := ⟨fun x => [.int .u64 (x : Int)], 1, 29, 26⟩
theorem info_u64w : ∃ i z, Tryd.prog.info? 29 = some i ∧ i.zero = some z ∧ i.size = 1 ∧ i.bytes ≤ 10000 ∧ z.cells.size = 1 := ⟨_, _, rfl, rfl, rfl, by decide, rfl⟩
theorem encL_w64 : Enc LTw.enc 1 := ⟨fun _ => rfl, fun x u hu => by
  simp only [LTw, List.mem_cons, List.not_mem_nil, or_false] at hu
  rcases hu with rfl; rfl, by decide⟩
theorem okT_w64 : LTok LTw := ⟨encL_w64, Tryd.underlying26, info_u64w, fun w => by kernel_rfl⟩
theorem flat_w64 (L : List Nat) : L.flatMap LTw.enc = (L.map fun x : Nat => (x : Int)).map eU := by
  induction L with
  | nil => rfl
  | cons x r ih => rw [List.flatMap_cons, ih]; rfl
theorem take_w64 (cur : Array Value) (d : Array Int) (h : d.size ≤ cur.size) : (putCells eU 0 d cur).toList.take d.size = d.toList.map eU := by
  apply List.ext_getElem?
  intro j
  by_cases hj : j < d.size
  · rw [List.getElem?_take_of_lt hj, Array.getElem?_toList]
    simp [putCells, hj, show j < cur.size by omega]
  · rw [List.getElem?_take_eq_none (by omega), List.getElem?_eq_none (by simp; omega)]
theorem SU.row (h : SU w0 g d0 d W) {cur : Array Value} {e : TypeId} {fr : Nat × Nat} (hb : w0.heap[g]? = some (.cells cur e fr)) : W.heap[g]? = some (.cells (putCells eU 0 d cur) e fr) := by
  obtain ⟨n, os, rfl⟩ := h.sw
  unfold sortWorld
  rw [heap_grow_old _ _ (by simpa [putRow, mapBlock, Sort.ahead] using h.gl)]
  simp [putRow, mapBlock, Sort.ahead, Array.getElem?_modify, hb, onCells]
theorem SU.fr (h : SU w0 g d0 d W) : Fr (· = g) w0 W := by
  obtain ⟨n, os, rfl⟩ := h.sw
  unfold sortWorld
  refine ⟨rfl, rfl, rfl, by simp [putRow, mapBlock, Sort.ahead], fun k hk hne => ?_⟩
  rw [heap_grow_old _ _ (by simpa [putRow, mapBlock, Sort.ahead] using hk)]
  have : g ≠ k := fun e => hne e.symm
  simp [putRow, mapBlock, Sort.ahead, Array.getElem?_modify, this]
/-- What is rising, of the same words. -/
theorem rise_of {L : List Nat} (hp : PermIn 0 L.length (L.map fun x : Nat => (x : Int)).toArray d) (hs : SortedIn ltInt 0 L.length d) : ∃ M : List Nat, d.toList = M.map (fun x : Nat => (x : Int)) ∧ M.Perm L ∧ M.Pairwise (· ≤ ·) := by
  have hsz : d.size = L.length := by rw [hp.1]; simp
  have p : d.toList.Perm (L.map fun x : Nat => (x : Int)) := by
    have := hp.2.2
    rw [show (L.map fun x : Nat => (x : Int)).toArray.extract 0 L.length = (L.map fun x : Nat => (x : Int)).toArray from by
      rw [show L.length = (L.map fun x : Nat => (x : Int)).toArray.size by simp]; exact Array.extract_size .., show d.extract 0 L.length = d from by rw [← hsz]; exact Array.extract_size ..] at this
    simpa using this
  refine ⟨d.toList.map Int.toNat, ?_, ?_, ?_⟩
  · rw [List.map_map]
    conv => lhs; rw [← List.map_id d.toList]
    apply List.map_congr_left
    intro x hx
    obtain ⟨y, _, rfl⟩ := List.mem_map.1 (p.mem_iff.1 hx)
    simp
  · have := p.map Int.toNat
    rw [List.map_map] at this
    rw [show (Int.toNat ∘ fun x : Nat => (x : Int)) = id from by funext x; simp] at this
    simpa using this
  · rw [List.pairwise_map, List.pairwise_iff_getElem]
    intro i j hi hj hij
    have hi' : i < d.size := by simpa using hi
    have hj' : j < d.size := by simpa using hj
    have h := hs i j (Nat.zero_le _) hij (by omega)
    rw [ltI] at h
    have h := of_decide_eq_false h
    rw [getElem!_pos d i hi', getElem!_pos d j hj'] at h
    simp only [Array.getElem_toList]
    omega

/-! ### at none -/
set_option maxHeartbeats 2000000 in
theorem insU_none (cap : Nat) (w : World) : Calls Tryd.prog 36 #[.slice none 0 cap, .int .i64 0, .int .i64 0] w fun e w' => e = .returned (.tuple #[]) ∧ w' = w := by
  go_enter Tryd.func36, Tryd.ntmps36
  go_wp2_with fail
  refine wp_loop_rounds 1 ?_
  rw [rounds_succ]
  go_wp2_with fail
  go_end0
  exact ⟨rfl, rfl⟩
set_option maxHeartbeats 2000000 in
theorem pdqU_none (cap : Nat) (lim : Int) (w : World) : Calls Tryd.prog 34 #[.slice none 0 cap, .int .i64 0, .int .i64 0, .int .i64 lim] w fun e w' => e = .returned (.tuple #[]) ∧ w' = w := by
  have hi := fun W => insU_none cap W
  go_enter Tryd.func34, Tryd.ntmps34
  go_wp2_with fail
  refine wp_loop_rounds 1 ?_
  rw [rounds_succ]
  go_wp2_with (go_at_call 36; with_reducible refine (hi _).mono ?_; rintro e w' ⟨rfl, rfl⟩)
  (try simp only [Exit.inBlock, Exit.then]); refine bodyPost_ret (results_none rfl _ _ _) rfl ?_
  exact ⟨rfl, rfl⟩
set_option maxHeartbeats 2000000 in
theorem sortU_none (cap : Nat) (w : World) : Calls Tryd.prog 31 #[.slice none 0 cap] w fun e w' => e = .returned (.tuple #[]) ∧ w' = w := by
  have h0 := len_any 0 w (by omega)
  rw [show ((0 : Nat) : Int) = 0 from rfl] at h0
  have hp := fun lim => pdqU_none cap lim w
  go_enter Tryd.func31, Tryd.ntmps31
  go_wp2_with (first | (go_at_call 35; with_reducible refine h0.mono ?_; rintro e w' ⟨rfl, rfl⟩) | (go_at_call 34; with_reducible refine (hp _).mono ?_; rintro e w' ⟨rfl, rfl⟩))
  go_end0
  exact ⟨rfl, rfl⟩

/-! ### a list of words, sorted -/
section
variable {w w' : World} {b n cap : Nat} {L : List Nat}
theorem holds_w64 (h : AX LTw w b (.slice (some ⟨g, 0, none⟩) n cap) L) : Holds eU w g 0 (L.map fun x : Nat => (x : Int)).toArray := by
  obtain ⟨hn, _⟩ := h.len
  subst hn
  intro j hj
  have hj' : j < L.length := by simpa using hj
  refine ⟨?_, ?_⟩
  · rw [Nat.zero_add]
    have := World.ownsRow.cellAt h.ol j (show j < L.length * 1 by omega)
    rw [this]
    simp only [flat_w64]
    simp [hj']
  · rw [Nat.zero_add]; exact h.ol.frz j
set_option maxHeartbeats 4000000 in
theorem sortW_any (h : AX LTw w b (.slice (some ⟨g, 0, none⟩) n cap) L) (hl : L.length ≤ 1000000) :
    Calls Tryd.prog 31 #[.slice (some ⟨g, 0, none⟩) n cap] w fun e w' => e = .returned (.tuple #[]) ∧ ∃ M : List Nat, M.Perm L ∧ M.Pairwise (· ≤ ·) ∧ AX LTw w' b (.slice (some ⟨g, 0, none⟩) n cap) M ∧ Fr (· = g) w w' := by
  obtain ⟨hn, hc⟩ := h.len
  subst hn
  have hg := h.up g rfl
  have hH := holds_w64 h
  have hm := lg_le (v := L.length) (n := 20) (by omega)
  have z1 : IntKind.u64.wrap (L.length : Int) = (L.length : Int) := by rw [IntKind.wrap_u64]; omega
  have c1 := len_any L.length w (by omega)
  have c2 := pdqU_any (n := L.length) (cap := cap) (w0 := w) (g := g) (d0 := (L.map fun x : Nat => (x : Int)).toArray) hl L.length _ w 0 L.length (lg L.length) (SU.start hH hg.2) (by simp) (Nat.zero_le _) (Nat.le_refl _) (by omega) (by omega) (Or.inl rfl)
  rw [show ((0 : Nat) : Int) = 0 from rfl] at c2
  have HR : Hid (∀ w' d', SU w g (L.map fun x : Nat => (x : Int)).toArray d' w' → PermIn 0 L.length (L.map fun x : Nat => (x : Int)).toArray d' → SortedIn ltInt 0 L.length d' → ∃ M : List Nat, M.Perm L ∧ M.Pairwise (· ≤ ·) ∧ AX LTw w' b (.slice (some ⟨g, 0, none⟩) L.length cap) M ∧ Fr (· = g) w w') := fun w' d' S hp hs => by
    obtain ⟨M, e, p, r⟩ := rise_of hp hs
    have hML := p.length_eq
    refine ⟨M, p, r, ⟨?_, fun k hk => by cases hk; exact ⟨hg.1, Nat.lt_of_lt_of_le hg.2 S.fr.size⟩⟩, S.fr⟩
    rcases h.ol.2 with ⟨h1, _⟩ | ⟨g', cap', cur, h1, h2, h3, h4, h5, h6, _⟩
    · cases h1
    · cases h1
      have hds : d'.size = M.length := by have := congrArg List.length e; simpa using this
      have hfl : (M.flatMap LTw.enc).length = M.length * 1 := flat_len encL_w64 M
      have hcs : cur.size = cap * 1 := h6
      refine ⟨?_, .inr ⟨g, cap, _, by rw [hML], Nat.zero_le _, S.row h3, by rw [hML]; exact h4, h5, ?_, ?_⟩⟩
      · rw [hfl]; rfl
      · show (putCells eU 0 d' cur).size = cap * 1
        rw [← hcs]
        simp [putCells]
      · rw [show M.length * LTw.sz = d'.size by rw [hds]; exact Nat.mul_one _, take_w64 _ _ (by rw [hcs, hds, hML]; omega), e, flat_w64]
  clear h hg hH hm hc
  generalize L.length = n at *
  generalize lg n = k at *
  go_enter Tryd.func31, Tryd.ntmps31
  go_wp2_with (first | (go_at_call 35; with_reducible refine c1.mono ?_; rintro e w' ⟨rfl, rfl⟩))
  with_reducible refine c2.mono ?_
  rintro e w2 ⟨rfl, d', S, p, s⟩
  have HQ := hid_is (HR.out w2 d' S p s)
  clear c1 c2 S p s HR
  go_wp2_with fail
  go_end0
  exact ⟨rfl, HQ.out⟩
end
end

end Go.Proofs.YthkkcnnlfjchaaaDoor
