/- Rows of bytes of one's own; copies by append; refusals of Get. -/
import Derived.Test.YtpjlmmiceiionaaDoorJ10
import Derived.Laws.OwnMore
import Derived.Laws.Cells
namespace Go.Proofs.YtpjlmmiceiionaaDoor
open Go.RowKit
set_option maxRecDepth 10000

theorem info_u8 : ∃ i, Tryd.prog.info? 5 = some i ∧ i.zero = some (.int .u8 0) ∧ i.size = 1 ∧ i.bytes = 1 := by
  have h : (Tryd.prog.info? 5).map (fun i => (i.zero, i.size, i.bytes)) = some (some (.int .u8 0), 1, 1) := by kernel_rfl
  obtain ⟨i, hi, e⟩ := Option.map_eq_some_iff.1 h
  simp only [Prod.mk.injEq] at e
  exact ⟨i, hi, e.1, e.2.1, e.2.2⟩

/-- Bytes, as cells. -/
def bytesOf (f : Nat → Nat) (n : Nat) : List Value := (List.range n).map fun i => .int .u8 ((f i : Nat) : Int)
theorem bytesOf_len (f : Nat → Nat) (n : Nat) : (bytesOf f n).length = n := by simp [bytesOf]
theorem bytesOf_get (f : Nat → Nat) (n i : Nat) (h : i < n) : (bytesOf f n)[i]? = some (.int .u8 ((f i : Nat) : Int)) := by simp [bytesOf, h]
theorem bytesOf_one (f : Nat → Nat) (n : Nat) : ∀ u ∈ bytesOf f n, u.oneCell' = true := by
  intro u hu
  simp only [bytesOf, List.mem_map] at hu
  obtain ⟨i, _, rfl⟩ := hu
  rfl
theorem bytesOf_upd (f : Nat → Nat) (n p v : Nat) : (bytesOf f n).set p (.int .u8 (v : Nat)) = bytesOf (upd f p v) n := by
  apply List.ext_getElem?
  intro i
  by_cases c : i < n
  · rw [bytesOf_get _ _ _ c, List.getElem?_set]
    by_cases e : p = i
    · subst e; rw [if_pos rfl, if_pos (by rw [bytesOf_len]; exact c), upd_same]
    · rw [if_neg e, bytesOf_get _ _ _ c, upd_other _ _ _ _ (by omega)]
  · rw [List.getElem?_eq_none (by rw [List.length_set, bytesOf_len]; omega), List.getElem?_eq_none (by rw [bytesOf_len]; omega)]
theorem bytesOf_snoc (f : Nat → Nat) (n v : Nat) : bytesOf f n ++ [.int .u8 (v : Nat)] = bytesOf (upd f n v) (n + 1) := by
  apply List.ext_getElem?
  intro i
  by_cases c : i < n
  · rw [List.getElem?_append_left (by rw [bytesOf_len]; exact c), bytesOf_get _ _ _ c, bytesOf_get _ _ _ (by omega), upd_other _ _ _ _ (by omega)]
  · rw [List.getElem?_append_right (by rw [bytesOf_len]; omega), bytesOf_len]
    by_cases c' : i = n
    · subst c'; rw [bytesOf_get _ _ _ (by omega), upd_same]; simp
    · rw [List.getElem?_eq_none (by simp; omega), List.getElem?_eq_none (by rw [bytesOf_len]; omega)]

/-- n bytes in a block of one's own, at or above base. -/
structure OP (W : World) (base g n cap : Nat) (f : Nat → Nat) : Prop where
  row : W.ownsRow base 5 1 (.slice (some ⟨g, 0, none⟩) n cap) n (bytesOf f n)
  byte : Bytes f
theorem OP.facts {W : World} {base g n cap : Nat} {f : Nat → Nat} (h : OP W base g n cap f) : base ≤ g ∧ g < W.heap.size ∧ n ≤ cap := by
  obtain ⟨_, h | ⟨g0, cap0, cur, e, h1, h2, h3, _⟩⟩ := h.row
  · cases h.1
  · cases e
    refine ⟨h1, ?_, h3⟩
    by_cases hh : g < W.heap.size
    · exact hh
    · rw [show W.heap[g]? = none from by simp; omega] at h2
      cases h2
theorem OP.bs {W : World} {base g n cap : Nat} {f : Nat → Nat} (h : OP W base g n cap f) : BS W g 0 n f :=
  ⟨h.facts.2.1, fun i hi => by rw [Nat.zero_add, h.row.cellAt i (by omega), bytesOf_get _ _ _ hi], fun i _ => by rw [Nat.zero_add]; exact h.row.frozenAt i, h.byte⟩
theorem OP.set {W : World} {base g n cap : Nat} {f : Nat → Nat} (h : OP W base g n cap f) (p v : Nat) (hv : v < 256) : OP (W.setCell ⟨g, p, none⟩ (.int .u8 (v : Nat))) base g n cap (upd f p v) :=
  ⟨by have := (h.row.stored p (.int .u8 (v : Nat))).1; rwa [bytesOf_upd] at this, h.byte.upd p v hv⟩
theorem OP.kp {W W' : World} {base g n cap : Nat} {f : Nat → Nat} (h : OP W base g n cap f) (k : Kp W W') : OP W' base g n cap f := by
  refine ⟨?_, h.byte⟩
  have hl := h.facts.2.1
  obtain ⟨h0, h | ⟨g0, cap0, cur, e, h1, h2, h3⟩⟩ := h.row
  · cases h.1
  · cases e
    exact ⟨h0, .inr ⟨g, cap, cur, rfl, h1, by rw [k.block g hl]; exact h2, h3⟩⟩
theorem OP.like {W : World} {base g n cap : Nat} {f f' : Nat → Nat} (h : OP W base g n cap f) (hg : ∀ i, i < n → f' i = f i) (hb : Bytes f') : OP W base g n cap f' := by
  have e : bytesOf f' n = bytesOf f n := by
    simp only [bytesOf]
    apply List.map_congr_left
    intro i hi
    rw [hg i (List.mem_range.1 hi)]
  exact ⟨by rw [e]; exact h.row, hb⟩

theorem own_empty (W : World) : (W.alloc (.cells #[] 5)).ownsRow W.heap.size 5 1 (.slice (some ⟨W.heap.size, 0, none⟩) 0 0) 0 [] :=
  ⟨rfl, .inr ⟨W.heap.size, 0, #[], rfl, Nat.le_refl _, by show (W.heap.push _)[W.heap.size]? = _; exact Array.getElem?_push_size, Nat.le_refl _, Nat.zero_le _, rfl, rfl⟩⟩

theorem kp_grown {W W1 W' : World} {r : Option Nat} (h : Kp W W1) (hr : ∀ g, r = some g → W.heap.size ≤ g) (k : W1.grownBy W' r) : Kp W W' :=
  ⟨k.os.trans h.os, k.tape.trans h.tape, k.output.trans h.output, Nat.le_trans h.size k.size, fun i hi => (k.block i (Nat.lt_of_lt_of_le hi h.size) (by intro e; have := hr i e.symm; omega)).trans (h.block i hi)⟩

/-- A row of one's own that is not nil. -/
theorem own_op {W : World} {base n : Nat} {v : Value} {f : Nat → Nat} (h : W.ownsRow base 5 1 v n (bytesOf f n)) (hv : v ≠ .slice none 0 0) (hb : Bytes f) : ∃ g cap, v = .slice (some ⟨g, 0, none⟩) n cap ∧ OP W base g n cap f := by
  have h' := h
  obtain ⟨_, h | ⟨g, cap, cur, rfl, _⟩⟩ := h
  · exact absurd h.1 hv
  · exact ⟨g, cap, rfl, h', hb⟩

/-- The cells of n bytes. -/
def Cells (W : World) (b o n : Nat) (f : Nat → Nat) : Prop := ∀ i, i < n → W.cell? ⟨b, o + i, none⟩ = some (.int .u8 (f i : Nat))
theorem Cells.news {W : World} {b o n : Nat} {f : Nat → Nat} (H : Cells W b o n f) : ∀ j u, (bytesOf f n)[j]? = some u → W.cell? ((⟨b, o, none⟩ : Addr).add j) = some u := by
  intro j u hu
  have hj : j < n := by
    have := (List.getElem?_eq_some_iff.1 hu).1
    rwa [bytesOf_len] at this
  rw [bytesOf_get f n j hj] at hu
  rw [← hu, add_at]; exact H j hj
theorem BS.cells {w : World} {b o m : Nat} {f : Nat → Nat} (h : BS w b o m f) : Cells w b o m f := h.cell

/-- append([]byte{}, p...): a copy of its own. -/
theorem copy_any (W : World) (b o n cap0 : Nat) (f : Nat → Nat) (hlt : b < W.heap.size) (H : Cells W b o n f) (hb : Bytes f) (hn : n ≤ 1000000) :
    ∃ g cap W', (Builtin.append_ #[40, 40] 40 #[.slice (some ⟨W.heap.size, 0, none⟩) 0 0, .slice (some ⟨b, o, none⟩) n cap0]).run Tryd.prog (W.alloc (.cells #[] 5)) = .ok (.slice (some ⟨g, 0, none⟩) n cap) W' ∧ OP W' W.heap.size g n cap f ∧ Kp W W' := by
  obtain ⟨i0, hi, hz0, hz1, hz2⟩ := info_u8
  have hk : Kp W (W.alloc (.cells #[] 5)) := (Kp.refl W).alloc _
  have H1 : Cells (W.alloc (.cells #[] 5)) b o n f := fun i hi => by rw [hk.cell (p := ⟨b, o + i, none⟩) hlt]; exact H i hi
  obtain ⟨v', W', h1, h2, h3, h4⟩ := run_append_own (P := Tryd.prog) (W.alloc (.cells #[] 5)) W.heap.size 40 40 5 i0 (.int .u8 0) 1 1 Tryd.underlying40 hi hz0 hz1 hz2 rfl (by decide) _ 0 [] (own_empty W) ⟨b, o, none⟩ n cap0 (bytesOf f n) (by rw [bytesOf_len]; omega) H1.news (bytesOf_one f n) (by unfold maxLen; omega) (by omega) (by simp)
  rw [List.nil_append, Nat.zero_add] at h2
  obtain ⟨g, cap, rfl, k1⟩ := own_op h2 (fun e => by have := (h4.1 e).1; cases this) hb
  exact ⟨g, cap, W', h1, k1, kp_grown hk (fun g hg => by cases hg; exact Nat.le_refl _) h3⟩
theorem copy_none (W : World) (f : Nat → Nat) (hb : Bytes f) :
    (Builtin.append_ #[40, 40] 40 #[.slice (some ⟨W.heap.size, 0, none⟩) 0 0, .slice none 0 0]).run Tryd.prog (W.alloc (.cells #[] 5)) = .ok (.slice (some ⟨W.heap.size, 0, none⟩) 0 0) (W.alloc (.cells #[] 5)) ∧ OP (W.alloc (.cells #[] 5)) W.heap.size W.heap.size 0 0 f := by
  obtain ⟨i0, hi, hz0, hz1, hz2⟩ := info_u8
  exact ⟨run_append_owned_none (P := Tryd.prog) (w := W.alloc (.cells #[] 5)) W.heap.size 40 40 5 i0 1 Tryd.underlying40 hi _ 0 [] (own_empty W), own_empty W, hb⟩

/-- append(q, c) of a row of one's own. -/
theorem snoc_any (W : World) (base g n cap c : Nat) (f : Nat → Nat) (H : OP W base g n cap f) (hc : c < 256) (hbase : base ≤ W.heap.size) (hn : n ≤ 1000000) :
    ∃ g' cap' W', (Builtin.append_ #[40, 40] 40 #[.slice (some ⟨g, 0, none⟩) n cap, .slice (some ⟨W.heap.size, 0, none⟩) 1 1]).run Tryd.prog (W.alloc (.cells #[.int .u8 (c : Nat)] 5)) = .ok (.slice (some ⟨g', 0, none⟩) (n + 1) cap') W' ∧
      OP W' base g' (n + 1) cap' (upd f n c) ∧ (∀ W0, W0.heap.size ≤ base → Kp W0 W → Kp W0 W') := by
  obtain ⟨i0, hi, hz0, hz1, hz2⟩ := info_u8
  have H1 := H.row.alloc (.cells #[.int .u8 (c : Nat)] 5)
  have hnew : ∀ j u, ([.int .u8 (c : Nat)] : List Value)[j]? = some u → (W.alloc (.cells #[.int .u8 (c : Nat)] 5)).cell? ((⟨W.heap.size, 0, none⟩ : Addr).add j) = some u := by
    intro j u hu
    match j with
    | 0 => simp at hu; subst hu; show (W.alloc _).cell? ⟨W.heap.size, 0, none⟩ = _; rw [World.cell?_alloc_at _ _ _ _ rfl]; rfl
    | j + 1 => simp at hu
  obtain ⟨v', W', h1, h2, h3, h4⟩ := run_append_own (P := Tryd.prog) (W.alloc (.cells #[.int .u8 (c : Nat)] 5)) base 40 40 5 i0 (.int .u8 0) 1 1 Tryd.underlying40 hi hz0 hz1 hz2 rfl (by decide) _ n _ H1 ⟨W.heap.size, 0, none⟩ 1 1 [.int .u8 (c : Nat)] rfl hnew (by intro u hu; simp at hu; subst hu; rfl) (by unfold maxLen; omega) (by omega) (by simp; omega)
  rw [bytesOf_snoc] at h2
  obtain ⟨g', cap', rfl, k1⟩ := own_op h2 (fun e => by have := (h4.1 e).1; cases this) (H.byte.upd _ _ hc)
  exact ⟨g', cap', W', h1, k1, fun W0 h0 hk => kp_grown (hk.alloc _) (fun g' hg => by cases hg; exact Nat.le_trans h0 H.facts.1) h3⟩


/-- Bytes as a string. -/
def strOf (f : Nat → Nat) (n : Nat) : ByteArray := ((List.range n).map fun i => ((f i : Nat) : Int)).foldl (fun r n => r.push (UInt8.ofNat n.toNat)) ByteArray.empty
theorem strOf_like {f g : Nat → Nat} {n : Nat} (h : ∀ i, i < n → f i = g i) : strOf f n = strOf g n := by
  unfold strOf
  congr 1
  apply List.map_congr_left
  intro i hi
  rw [h i (List.mem_range.1 hi)]
theorem string_any (w : World) (b o n cap : Nat) (f : Nat → Nat) (H : Cells w b o n f) :
    (convert 40 9 (.slice (some ⟨b, o, none⟩) n cap)).run Tryd.prog w = .ok (.string (strOf f n)) w := by
  rw [run_convert_bytes_string w 40 9 5 _ _ _ Tryd.underlying40 Tryd.underlying5 Tryd.underlying9]
  refine run_bytesToString w ⟨b, o, none⟩ n cap _ ?_
  have := run_loadCells_list (P := Tryd.prog) (w := w) ⟨b, o, none⟩ (bytesOf f n) H.news
  rw [bytesOf_len] at this
  rw [this]
  simp [bytesOf]

set_option maxHeartbeats 2000000 in
theorem put_none (na : Option Addr) (n cap : Nat) (p s r : Int) (v : Int) (w : World) (hn : n ≤ 1000000) (h3 : -9223372036854775808 ≤ p) (h4 : p ≤ 9223372036854775807) (hc : chk n p s = r) (hr : r ≠ 0) :
    Calls Tryd.prog 35 #[.slice na n cap, .int .i64 p, .int .i64 s, .int .u64 v] w fun e w' => e = .returned (.tuple #[.slice none 0 0, .int .i64 r]) ∧ w' = w := by
  have c1 := fun w => check_any n p s w (by omega) (by omega) h3 h4
  rw [hc] at c1
  have z : (r != 0) = true := by simp [hr]
  clear hc h3 h4 hr
  go_enter Tryd.func35, Tryd.ntmps35
  go_wp2_with (go_at_call 54; with_reducible refine (c1 _).mono ?_; rintro e w' ⟨rfl, rfl⟩)
  go_ret2
  exact ⟨rfl, rfl⟩
end Go.Proofs.YtpjlmmiceiionaaDoor
