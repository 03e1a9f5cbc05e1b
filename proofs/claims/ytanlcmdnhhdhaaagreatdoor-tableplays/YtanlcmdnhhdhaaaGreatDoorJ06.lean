/- Joined: B4, B5, MG, P1, V1. -/
import Derived.Test.YtanlcmdnhhdhaaaGreatDoorJ05
import Derived.Laws.OwnMore
import Derived.Laws.Cells
import Derived.Laws.Cover3
import Derived.Test.YtanlcmdnhhdhaaaGreatDoorJ00
import Derived.Maps.OwnSet
import Derived.Laws.StructEq
import Derived.Laws.Rows
import Derived.Laws.IdiomCopy
/- Rows of bytes of one's own; copies by append; refusals of Get. -/
namespace Go.Proofs.YtanlcmdnhhdhaaaGreatDoor
open Go.RowKit
set_option maxRecDepth 10000

theorem info_u8 : ∃ i, Tryz.prog.info? 5 = some i ∧ i.zero = some (.int .u8 0) ∧ i.size = 1 ∧ i.bytes = 1 := by
  have h : (Tryz.prog.info? 5).map (fun i => (i.zero, i.size, i.bytes)) = some (some (.int .u8 0), 1, 1) := by kernel_rfl
  obtain ⟨i, hi, e⟩ := Option.map_eq_some_iff.1 h
  simp only [Prod.mk.injEq] at e
  exact ⟨i, hi, e.1, e.2.1, e.2.2⟩

/-- Bytes, as cells. -/
def bytesOf (f : Nat → Nat) (n : Nat) : List Value := (List.range n).map fun i => .int .u8 ((f i : Nat) : Int)
theorem bytesOf_len (f : Nat → Nat) (n : Nat) : (bytesOf f n).length = n := by simp [bytesOf]
theorem bytesOf_get (f : Nat → Nat) (n i : Nat) (h : i < n) : (bytesOf f n)[i]? = some (.int .u8 ((f i : Nat) : Int)) := by simp [bytesOf, h]
theorem bytesOf_one (f : Nat → Nat) (n : Nat) : ∀ u ∈ bytesOf f n, u.oneCell' = true := by
  intro u hu
  simp only [bytesOf, List.mem_map] at hu
  obtain ⟨i, _, rfl⟩ := hu
  rfl
theorem bytesOf_upd (f : Nat → Nat) (n p v : Nat) : (bytesOf f n).set p (.int .u8 (v : Nat)) = bytesOf (upd f p v) n := by
  apply List.ext_getElem?
  intro i
  by_cases c : i < n
  · rw [bytesOf_get _ _ _ c, List.getElem?_set]
    by_cases e : p = i
    · subst e; rw [if_pos rfl, if_pos (by rw [bytesOf_len]; exact c), upd_same]
    · rw [if_neg e, bytesOf_get _ _ _ c, upd_other _ _ _ _ (by omega)]
  · rw [List.getElem?_eq_none (by rw [List.length_set, bytesOf_len]; omega), List.getElem?_eq_none (by rw [bytesOf_len]; omega)]
theorem bytesOf_snoc (f : Nat → Nat) (n v : Nat) : bytesOf f n ++ [.int .u8 (v : Nat)] = bytesOf (upd f n v) (n + 1) := by
  apply List.ext_getElem?
  intro i
  by_cases c : i < n
  · rw [List.getElem?_append_left (by rw [bytesOf_len]; exact c), bytesOf_get _ _ _ c, bytesOf_get _ _ _ (by omega), upd_other _ _ _ _ (by omega)]
  · rw [List.getElem?_append_right (by rw [bytesOf_len]; omega), bytesOf_len]
    by_cases c' : i = n
    · subst c'; rw [bytesOf_get _ _ _ (by omega), upd_same]; simp
    · rw [List.getElem?_eq_none (by simp; omega), List.getElem?_eq_none (by rw [bytesOf_len]; omega)]

/-- n bytes in a block of one's own, at or above base. -/
structure OP (W : World) (base g n cap : Nat) (f : Nat → Nat) : Prop where
  row : W.ownsRow base 5 1 (.slice (some ⟨g, 0, none⟩) n cap) n (bytesOf f n)
  byte : Bytes f
theorem OP.facts {W : World} {base g n cap : Nat} {f : Nat → Nat} (h : OP W base g n cap f) : base ≤ g ∧ g < W.heap.size ∧ n ≤ cap := by
  obtain ⟨_, h | ⟨g0, cap0, cur, e, h1, h2, h3, _⟩⟩ := h.row
  · cases h.1
  · cases e
    refine ⟨h1, ?_, h3⟩
    by_cases hh : g < W.heap.size
    · exact hh
    · rw [show W.heap[g]? = none from by simp; omega] at h2
      cases h2
theorem OP.bs {W : World} {base g n cap : Nat} {f : Nat → Nat} (h : OP W base g n cap f) : BS W g 0 n f :=
  ⟨h.facts.2.1, fun i hi => by rw [Nat.zero_add, h.row.cellAt i (by omega), bytesOf_get _ _ _ hi], fun i _ => by rw [Nat.zero_add]; exact h.row.frozenAt i, h.byte⟩
theorem OP.set {W : World} {base g n cap : Nat} {f : Nat → Nat} (h : OP W base g n cap f) (p v : Nat) (hv : v < 256) : OP (W.setCell ⟨g, p, none⟩ (.int .u8 (v : Nat))) base g n cap (upd f p v) :=
  ⟨by have := (h.row.stored p (.int .u8 (v : Nat))).1; rwa [bytesOf_upd] at this, h.byte.upd p v hv⟩
theorem OP.kp {W W' : World} {base g n cap : Nat} {f : Nat → Nat} (h : OP W base g n cap f) (k : Kp W W') : OP W' base g n cap f := by
  refine ⟨?_, h.byte⟩
  have hl := h.facts.2.1
  obtain ⟨h0, h | ⟨g0, cap0, cur, e, h1, h2, h3⟩⟩ := h.row
  · cases h.1
  · cases e
    exact ⟨h0, .inr ⟨g, cap, cur, rfl, h1, by rw [k.block g hl]; exact h2, h3⟩⟩
theorem OP.like {W : World} {base g n cap : Nat} {f f' : Nat → Nat} (h : OP W base g n cap f) (hg : ∀ i, i < n → f' i = f i) (hb : Bytes f') : OP W base g n cap f' := by
  have e : bytesOf f' n = bytesOf f n := by
    simp only [bytesOf]
    apply List.map_congr_left
    intro i hi
    rw [hg i (List.mem_range.1 hi)]
  exact ⟨by rw [e]; exact h.row, hb⟩

theorem own_empty (W : World) : (W.alloc (.cells #[] 5)).ownsRow W.heap.size 5 1 (.slice (some ⟨W.heap.size, 0, none⟩) 0 0) 0 [] :=
  ⟨rfl, .inr ⟨W.heap.size, 0, #[], rfl, Nat.le_refl _, by show (W.heap.push _)[W.heap.size]? = _; exact Array.getElem?_push_size, Nat.le_refl _, Nat.zero_le _, rfl, rfl⟩⟩

theorem kp_grown {W W1 W' : World} {r : Option Nat} (h : Kp W W1) (hr : ∀ g, r = some g → W.heap.size ≤ g) (k : W1.grownBy W' r) : Kp W W' :=
  ⟨k.os.trans h.os, k.tape.trans h.tape, k.output.trans h.output, Nat.le_trans h.size k.size, fun i hi => (k.block i (Nat.lt_of_lt_of_le hi h.size) (by intro e; have := hr i e.symm; omega)).trans (h.block i hi)⟩

/-- A row of one's own that is not nil. -/
theorem own_op {W : World} {base n : Nat} {v : Value} {f : Nat → Nat} (h : W.ownsRow base 5 1 v n (bytesOf f n)) (hv : v ≠ .slice none 0 0) (hb : Bytes f) : ∃ g cap, v = .slice (some ⟨g, 0, none⟩) n cap ∧ OP W base g n cap f := by
  have h' := h
  obtain ⟨_, h | ⟨g, cap, cur, rfl, _⟩⟩ := h
  · exact absurd h.1 hv
  · exact ⟨g, cap, rfl, h', hb⟩

/-- The cells of n bytes. -/
def Cells (W : World) (b o n : Nat) (f : Nat → Nat) : Prop := ∀ i, i < n → W.cell? ⟨b, o + i, none⟩ = some (.int .u8 (f i : Nat))
theorem Cells.news {W : World} {b o n : Nat} {f : Nat → Nat} (H : Cells W b o n f) : ∀ j u, (bytesOf f n)[j]? = some u → W.cell? ((⟨b, o, none⟩ : Addr).add j) = some u := by
  intro j u hu
  have hj : j < n := by
    have := (List.getElem?_eq_some_iff.1 hu).1
    rwa [bytesOf_len] at this
  rw [bytesOf_get f n j hj] at hu
  rw [← hu, add_at]; exact H j hj
theorem BS.cells {w : World} {b o m : Nat} {f : Nat → Nat} (h : BS w b o m f) : Cells w b o m f := h.cell

/-- append([]byte{}, p...): a copy of its own. -/
theorem copy_any (W : World) (b o n cap0 : Nat) (f : Nat → Nat) (hlt : b < W.heap.size) (H : Cells W b o n f) (hb : Bytes f) (hn : n ≤ 1000000) :
    ∃ g cap W', (Builtin.append_ #[114, 114] 114 #[.slice (some ⟨W.heap.size, 0, none⟩) 0 0, .slice (some ⟨b, o, none⟩) n cap0]).run Tryz.prog (W.alloc (.cells #[] 5)) = .ok (.slice (some ⟨g, 0, none⟩) n cap) W' ∧ OP W' W.heap.size g n cap f ∧ Kp W W' := by
  obtain ⟨i0, hi, hz0, hz1, hz2⟩ := info_u8
  have hk : Kp W (W.alloc (.cells #[] 5)) := (Kp.refl W).alloc _
  have H1 : Cells (W.alloc (.cells #[] 5)) b o n f := fun i hi => by rw [hk.cell (p := ⟨b, o + i, none⟩) hlt]; exact H i hi
  obtain ⟨v', W', h1, h2, h3, h4⟩ := run_append_own (P := Tryz.prog) (W.alloc (.cells #[] 5)) W.heap.size 114 114 5 i0 (.int .u8 0) 1 1 Tryz.underlying114 hi hz0 hz1 hz2 rfl (by decide) _ 0 [] (own_empty W) ⟨b, o, none⟩ n cap0 (bytesOf f n) (by rw [bytesOf_len]; omega) H1.news (bytesOf_one f n) (by unfold maxLen; omega) (by omega) (by simp)
  rw [List.nil_append, Nat.zero_add] at h2
  obtain ⟨g, cap, rfl, k1⟩ := own_op h2 (fun e => by have := (h4.1 e).1; cases this) hb
  exact ⟨g, cap, W', h1, k1, kp_grown hk (fun g hg => by cases hg; exact Nat.le_refl _) h3⟩
theorem copy_none (W : World) (f : Nat → Nat) (hb : Bytes f) :
    (Builtin.append_ #[114, 114] 114 #[.slice (some ⟨W.heap.size, 0, none⟩) 0 0, .slice none 0 0]).run Tryz.prog (W.alloc (.cells #[] 5)) = .ok (.slice (some ⟨W.heap.size, 0, none⟩) 0 0) (W.alloc (.cells #[] 5)) ∧ OP (W.alloc (.cells #[] 5)) W.heap.size W.heap.size 0 0 f := by
  obtain ⟨i0, hi, hz0, hz1, hz2⟩ := info_u8
  exact ⟨run_append_owned_none (P := Tryz.prog) (w := W.alloc (.cells #[] 5)) W.heap.size 114 114 5 i0 1 Tryz.underlying114 hi _ 0 [] (own_empty W), own_empty W, hb⟩

/-- append(q, c) of a row of one's own. -/
theorem snoc_any (W : World) (base g n cap c : Nat) (f : Nat → Nat) (H : OP W base g n cap f) (hc : c < 256) (hbase : base ≤ W.heap.size) (hn : n ≤ 1000000) :
    ∃ g' cap' W', (Builtin.append_ #[114, 114] 114 #[.slice (some ⟨g, 0, none⟩) n cap, .slice (some ⟨W.heap.size, 0, none⟩) 1 1]).run Tryz.prog (W.alloc (.cells #[.int .u8 (c : Nat)] 5)) = .ok (.slice (some ⟨g', 0, none⟩) (n + 1) cap') W' ∧
      OP W' base g' (n + 1) cap' (upd f n c) ∧ (∀ W0, W0.heap.size ≤ base → Kp W0 W → Kp W0 W') := by
  obtain ⟨i0, hi, hz0, hz1, hz2⟩ := info_u8
  have H1 := H.row.alloc (.cells #[.int .u8 (c : Nat)] 5)
  have hnew : ∀ j u, ([.int .u8 (c : Nat)] : List Value)[j]? = some u → (W.alloc (.cells #[.int .u8 (c : Nat)] 5)).cell? ((⟨W.heap.size, 0, none⟩ : Addr).add j) = some u := by
    intro j u hu
    match j with
    | 0 => simp at hu; subst hu; show (W.alloc _).cell? ⟨W.heap.size, 0, none⟩ = _; rw [World.cell?_alloc_at _ _ _ _ rfl]; rfl
    | j + 1 => simp at hu
  obtain ⟨v', W', h1, h2, h3, h4⟩ := run_append_own (P := Tryz.prog) (W.alloc (.cells #[.int .u8 (c : Nat)] 5)) base 114 114 5 i0 (.int .u8 0) 1 1 Tryz.underlying114 hi hz0 hz1 hz2 rfl (by decide) _ n _ H1 ⟨W.heap.size, 0, none⟩ 1 1 [.int .u8 (c : Nat)] rfl hnew (by intro u hu; simp at hu; subst hu; rfl) (by unfold maxLen; omega) (by omega) (by simp; omega)
  rw [bytesOf_snoc] at h2
  obtain ⟨g', cap', rfl, k1⟩ := own_op h2 (fun e => by have := (h4.1 e).1; cases this) (H.byte.upd _ _ hc)
  exact ⟨g', cap', W', h1, k1, fun W0 h0 hk => kp_grown (hk.alloc _) (fun g' hg => by cases hg; exact Nat.le_trans h0 H.facts.1) h3⟩


/-- Bytes as a string. -/
def strOf (f : Nat → Nat) (n : Nat) : ByteArray := ((List.range n).map fun i => ((f i : Nat) : Int)).foldl (fun r n => r.push (UInt8.ofNat n.toNat)) ByteArray.empty
theorem strOf_like {f g : Nat → Nat} {n : Nat} (h : ∀ i, i < n → f i = g i) : strOf f n = strOf g n := by
  unfold strOf
  congr 1
  apply List.map_congr_left
  intro i hi
  rw [h i (List.mem_range.1 hi)]
theorem string_any (w : World) (b o n cap : Nat) (f : Nat → Nat) (H : Cells w b o n f) :
    (convert 114 9 (.slice (some ⟨b, o, none⟩) n cap)).run Tryz.prog w = .ok (.string (strOf f n)) w := by
  rw [run_convert_bytes_string w 114 9 5 _ _ _ Tryz.underlying114 Tryz.underlying5 Tryz.underlying9]
  refine run_bytesToString w ⟨b, o, none⟩ n cap _ ?_
  have := run_loadCells_list (P := Tryz.prog) (w := w) ⟨b, o, none⟩ (bytesOf f n) H.news
  rw [bytesOf_len] at this
  rw [this]
  simp [bytesOf]

/-! ### refusals -/
set_option maxHeartbeats 2000000 in
theorem get_none (na : Option Addr) (n cap : Nat) (p s r : Int) (w : World) (hn : n ≤ 1000000) (h3 : -9223372036854775808 ≤ p) (h4 : p ≤ 9223372036854775807) (hc : chk n p s = r) (hr : r ≠ 0) :
    Calls Tryz.prog 53 #[.slice na n cap, .int .i64 p, .int .i64 s] w fun e w' => e = .returned (.tuple #[.int .u64 0, .int .i64 r]) ∧ w' = w := by
  have c1 := fun w => check_any n p s w (by omega) (by omega) h3 h4
  rw [hc] at c1
  have z : (r != 0) = true := by simp [hr]
  clear hc h3 h4 hr
  go_enter Tryz.func53, Tryz.ntmps53
  go_wp2_with (go_at_call 91; with_reducible refine (c1 _).mono ?_; rintro e w' ⟨rfl, rfl⟩)
  go_ret2
  exact ⟨rfl, rfl⟩
set_option maxHeartbeats 2000000 in
theorem put_none (na : Option Addr) (n cap : Nat) (p s r : Int) (v : Int) (w : World) (hn : n ≤ 1000000) (h3 : -9223372036854775808 ≤ p) (h4 : p ≤ 9223372036854775807) (hc : chk n p s = r) (hr : r ≠ 0) :
    Calls Tryz.prog 131 #[.slice na n cap, .int .i64 p, .int .i64 s, .int .u64 v] w fun e w' => e = .returned (.tuple #[.slice none 0 0, .int .i64 r]) ∧ w' = w := by
  have c1 := fun w => check_any n p s w (by omega) (by omega) h3 h4
  rw [hc] at c1
  have z : (r != 0) = true := by simp [hr]
  clear hc h3 h4 hr
  go_enter Tryz.func131, Tryz.ntmps131
  go_wp2_with (go_at_call 91; with_reducible refine (c1 _).mono ?_; rintro e w' ⟨rfl, rfl⟩)
  go_ret2
  exact ⟨rfl, rfl⟩
end Go.Proofs.YtanlcmdnhhdhaaaGreatDoor

/- Put, the program's and the document's. -/
namespace Go.Proofs.YtanlcmdnhhdhaaaGreatDoor
open Go.RowKit
set_option maxRecDepth 10000

/-- f with v's k low bytes from p on. -/
def putF (f : Nat → Nat) (p k v : Nat) : Nat → Nat := fun i => if p ≤ i ∧ i < p + k then v / 2 ^ (8 * (i - p)) % 256 else f i
theorem putF_zero (f : Nat → Nat) (p v : Nat) : putF f p 0 v = f := by funext i; unfold putF; rw [if_neg (by omega)]
theorem putF_succ (f : Nat → Nat) (p k v : Nat) : upd (putF f p k v) (p + k) (v / 2 ^ (8 * k) % 256) = putF f p (k + 1) v := by
  funext i
  unfold upd putF
  by_cases e : i = p + k
  · subst e; rw [if_pos rfl, if_pos (by omega), show p + k - p = k by omega]
  · rw [if_neg e]
    by_cases c : p ≤ i ∧ i < p + k
    · rw [if_pos c, if_pos (by omega)]
    · rw [if_neg c, if_neg (by omega)]
theorem putF_byte {f : Nat → Nat} (h : Bytes f) (p k v : Nat) : Bytes (putF f p k v) := fun i => by
  unfold putF; split
  · omega
  · exact h i

set_option maxHeartbeats 2000000 in
set_option maxRecDepth 10000 in
theorem clone_any (b n cap : Nat) (f : Nat → Nat) (w : World) (H : BS w b 0 n f) (hn : n ≤ 1000000) :
    Calls Tryz.prog 146 #[.slice (some ⟨b, 0, none⟩) n cap] w fun e w' => ∃ g cap', e = .returned (.slice (some ⟨g, 0, none⟩) n cap') ∧ OP w' w.heap.size g n cap' f ∧ Kp w w' := by
  obtain ⟨g, cap', W', h1, h2, h3⟩ := copy_any w b 0 n cap f H.lt H.cells H.byte hn
  have H2 : Hid _ := h2
  have H3 : Hid _ := h3
  clear H h2 h3
  have hq : (Tryz.prog.underlying 114) = some (.slice 5) := Tryz.underlying114
  have h0 : ∀ w, (binOp .eql 114 (.slice (some ⟨b, 0, none⟩) n cap) (.slice none 0 0)).run Tryz.prog w = .ok (.bool false) w := fun w => by
    simp [binOp, run_equal_slice_nil w 114 5 _ n cap hq]
  go_enter Tryz.func146, Tryz.ntmps146
  repeat' (first | ((with_reducible refine wp_append_of h1 (.tmp 5) (.tmp 6) ?_ ?_ ?_ ?_ ?_); rfl; rfl; rfl; rfl) | go_values | go_skip | go_guarded | go_step | go_upon | go_back | (simp only []) | (go_values <;> (try go_simp)) | (go_ite <;> go_prune <;> (try go_simp)))
  go_ret
  exact ⟨g, cap', rfl, H2.out, H3.out⟩

theorem shr_byte (v k : Nat) : IntKind.u8.wrap ((v : Int) / 2 ^ (8 * k)) = ((v / 2 ^ (8 * k) % 256 : Nat) : Int) := by
  have e : (v : Int) / 2 ^ (8 * k) = ((v / 2 ^ (8 * k) : Nat) : Int) := by simp
  rw [e]
  simp [IntKind.wrap, IntKind.bits, IntKind.signed]

set_option maxHeartbeats 2000000 in
set_option maxRecDepth 10000 in
theorem put_some (b n cap p s v : Nat) (f : Nat → Nat) (w : World) (H : BS w b 0 n f) (hn : n ≤ 1000000) (hs : s ≤ 8) (hp : p + s ≤ n) (hv : v < 18446744073709551616) (hc : chk n p s = 0) :
    Calls Tryz.prog 131 #[.slice (some ⟨b, 0, none⟩) n cap, .int .i64 (p : Int), .int .i64 (s : Int), .int .u64 (v : Int)] w fun e w' => ∃ g cap', e = .returned (.tuple #[.slice (some ⟨g, 0, none⟩) n cap', .int .i64 0]) ∧ OP w' w.heap.size g n cap' (putF f p s v) ∧ Kp w w' := by
  have c1 := fun w => check_any n p s w (by omega) (by omega) (by omega) (by omega)
  rw [hc] at c1
  have c2 := clone_any b n cap f w H hn
  have z1 : (p : Int) + s ≤ n := by omega
  have z3 : (n : Int) ≤ 1000000 := by omega
  have z4 : (s : Int) ≤ 8 := by omega
  have z5 : (v : Int) < 18446744073709551616 := by omega
  clear H hc hv
  go_enter Tryz.func131, Tryz.ntmps131
  go_wp2_with (go_at_call 91; with_reducible refine (c1 _).mono ?_; rintro e w' ⟨rfl, rfl⟩)
  with_reducible refine c2.mono ?_
  rintro e w1 ⟨g, cap', rfl, O1, K1⟩
  have HO : Hid _ := O1
  have HK : Hid _ := K1
  clear O1 K1 c2
  go_wp2_with fail
  go_loopg [24] s (fun gg v24 wr => ∃ k : Nat, v24 = .int .i64 k ∧ k ≤ s ∧ s - k ≤ gg ∧ Aside (OP wr w'.heap.size g n cap' (putF f p k v)) ∧ Aside (Kp w' wr))
  case atStart => exact ⟨0, rfl, by omega, by omega, by rw [putF_zero]; exact HO.out, HK.out⟩
  case round =>
    clear HO HK
    obtain ⟨k, rfl, hk, hg, HO, HK⟩ := hrel
    by_cases hlt : k < s
    · have y1 : (k : Int) < s := by omega
      have c2 := HO.out.bs.cell (p + k) (by omega)
      have c3 := HO.out.bs.frz (p + k) (by omega)
      rw [Nat.zero_add] at c2 c3
      have q := shr_byte v k
      have O2 := HO.out.set (p + k) (v / 2 ^ (8 * k) % 256) (by omega)
      rw [putF_succ] at O2
      have K2 := HK.out.set ⟨g, p + k, none⟩ (.int .u8 ((v / 2 ^ (8 * k) % 256 : Nat) : Int)) HO.out.facts.1
      generalize v / 2 ^ (8 * k) % 256 = d at *
      have A2 : Aside _ := O2
      have B2 : Aside _ := K2
      clear O2 K2
      go_wp2
      go_roundg (s - (k + 1))
      case measure => omega
      case rel => exact ⟨k + 1, by go_num, by omega, by omega, A2, B2⟩
    · have e : k = s := by omega
      subst e
      go_wp2
      go_ret2
      exact ⟨g, cap', rfl, HO.out, HK.out⟩

theorem div_step (v k : Nat) : v / 2 ^ (8 * k) / 256 = v / 2 ^ (8 * (k + 1)) := by
  rw [Nat.div_div_eq_div_mul, show 8 * (k + 1) = 8 * k + 8 by omega, Nat.pow_add]

end Go.Proofs.YtanlcmdnhhdhaaaGreatDoor

/- The ground of maps with int keys. -/
namespace Go.Proofs.YtanlcmdnhhdhaaaGreatDoor
open Go.RowKit Go.Maps

theorem keyed_int : Keyed Tryz.prog 3 := int_keyed Tryz.underlying3
theorem tally (N : Nat) : ∀ (l : List Int), l.Pairwise (· ≠ ·) → (∀ x ∈ l, 0 ≤ x ∧ x < (N : Int)) → l.length ≤ N := by
  induction N with
  | zero =>
    intro l _ h
    match l with
    | [] => exact Nat.le_refl _
    | x :: r => have := h x (by simp); omega
  | succ N ih =>
    intro l hp h
    have h1 : (l.filter (fun x => decide (x ≠ (N : Int)))).length ≤ N := ih _ (hp.filter _) (fun x hx => by
      have hx' := List.mem_filter.1 hx
      have := h x hx'.1
      have := of_decide_eq_true hx'.2
      omega)
    have h2 : ∀ (l : List Int), l.Pairwise (· ≠ ·) → l.length ≤ (l.filter (fun x => decide (x ≠ (N : Int)))).length + 1 := by
      intro l
      induction l with
      | nil => intro _; simp
      | cons x r ihr =>
        intro hp
        obtain ⟨q1, q2⟩ := List.pairwise_cons.1 hp
        by_cases e : x = (N : Int)
        · subst e
          have : r.filter (fun x => decide (x ≠ (N : Int))) = r := List.filter_eq_self.2 (fun y hy => decide_eq_true (fun e => q1 y hy e.symm))
          rw [List.filter_cons, if_neg (by simp), this]; simp
        · have := ihr q2
          rw [List.filter_cons, if_pos (decide_eq_true e)]
          simp only [List.length_cons]
          omega
    have := h2 l hp
    omega
theorem lit_ne {x y : Int} (h : y ≠ x) : (Lit.int .i64 y) ≠ .int .i64 x := fun e => h (by cases e; rfl)
theorem isKey_int (x : Int) (hx : (Lit.int .i64 x).wf = true) : WideAt.IsKeyLit (.int .i64 x) := keyed_int.key (keyOf_int_mk Tryz.underlying3 hx)

/-- As many entries as keys from 0 to N - 1, whatever the elements are. -/
theorem map_sized {R : Value → Option (DataW Unit × List MemPlace)} {w : World} {bm n N : Nat} {D : DataW Unit} (h : w.ownsMap Tryz.prog 3 R bm n D) (hh : ∀ x, Maps.has D (.int .i64 x) = true → 0 ≤ x ∧ x < (N : Int)) :
    w.ownsMap Tryz.prog 3 R bm N D := by
  obtain ⟨es, clock, hb, F, hs, rfl⟩ := h
  refine ⟨es, clock, hb, F, ?_, rfl⟩
  have hk := fit_keys F
  have ha := fit_apart keyed_int F
  have ei : ∀ p ∈ es.toList.map (WideElems.rg Tryz.prog 3 R), ∃ y, p.1 = .int .i64 y := fun p hp => by
    obtain ⟨v, hv⟩ := hk p hp
    rw [keyOf_int Tryz.underlying3] at hv
    cases v <;> simp [mapKey, Tryz.underlying3] at hv
    exact ⟨_, hv.2.symm⟩
  have hl : (es.toList.map (WideElems.rg Tryz.prog 3 R)).length = es.size := by simp
  generalize es.toList.map (WideElems.rg Tryz.prog 3 R) = L at ha ei hh hl
  rw [← hl]
  have t := tally N (L.map fun p => match p.1 with | .int _ y => y | _ => 0) (by
    rw [List.pairwise_map]
    have : L.Pairwise (fun x y => x ∈ L ∧ y ∈ L ∧ x.1 ≠ y.1) := List.Pairwise.imp_of_mem (fun {a b} h1 h2 h3 => ⟨h1, h2, h3⟩) ha
    refine this.imp (fun {a b} h => ?_)
    obtain ⟨h1, h2, h3⟩ := h
    obtain ⟨y, hy⟩ := ei a h1
    obtain ⟨z, hz⟩ := ei b h2
    rw [hy, hz] at h3 ⊢
    exact fun e => h3 (by simpa using e)) (fun x hx => by
    obtain ⟨p, hp, rfl⟩ := List.mem_map.1 hx
    obtain ⟨y, hy⟩ := ei p hp
    have e1 : Maps.has (DataW.map (L.foldr DataW.insert [])) (.int .i64 y) = true := by
      rw [has_eq, List.any_eq_true]
      exact ⟨p, (WideShapes.sorted_perm L).mem_iff.2 hp, by rw [hy]; simp [Lit.sameKey]⟩
    simp only [hy]
    exact hh y e1)
  simpa using t

end Go.Proofs.YtanlcmdnhhdhaaaGreatDoor

/- Pages: arrays of bytes, alike or not; worlds alike but for some blocks; a map of pages. -/
namespace Go.Proofs.YtanlcmdnhhdhaaaGreatDoor
open Go.RowKit Go.Maps
set_option maxRecDepth 10000

/-- Two rows of n bytes are alike. -/
def alike (f g : Nat → Nat) (n : Nat) : Bool := (List.range' 0 n 1).all fun i => f i == g i
theorem alike_iff (f g : Nat → Nat) (n : Nat) : alike f g n = true ↔ ∀ i, i < n → f i = g i := by
  unfold alike
  rw [List.all_eq_true]
  constructor
  · intro h i hi
    have := h i (List.mem_range'_1.2 ⟨Nat.zero_le _, by omega⟩)
    simpa using this
  · intro h i hi
    have := (List.mem_range'_1.1 hi).2
    simpa using h i (by omega)
theorem alike_of {f g : Nat → Nat} {n : Nat} (h : ∀ i, i < n → f i = g i) : alike f g n = true := (alike_iff f g n).2 h
theorem alike_not {f g : Nat → Nat} {n i : Nat} (hi : i < n) (h : f i ≠ g i) : alike f g n = false := by
  cases e : alike f g n
  · rfl
  · exact absurd ((alike_iff f g n).1 e i hi) h

section
variable {P : Program} (w : World)
theorem equalIn_bytes (d : Nat) (t e : TypeId) (n : Nat) (ht : P.underlying t = some (.array n e)) (he : P.underlying e = some (.int .u8)) (hsz : ∀ w, (sizeOf e).run P w = .ok 1 w)
    (f g : Nat → Nat) : (Op.equalIn (d + 2) t (.agg (bytesOf f n).toArray) (.agg (bytesOf g n).toArray)).run P w = .ok (alike f g n) w := by
  rw [alike, Op.equalIn]
  simp only [Sem.run_bind, run_underlying ht, Result.andThen_ok, hsz, Std.Legacy.Range.forIn_eq_forIn_range', Std.Legacy.Range.size, Nat.sub_zero, Nat.add_sub_cancel, Nat.div_one]
  have hl : ∀ i ∈ List.range' 0 n 1, i < n := fun i hi => by simpa using (List.mem_range'_1.1 hi).2
  generalize List.range' 0 n 1 = l at hl ⊢
  induction l with
  | nil => simp
  | cons i l ih =>
    have hi : i < n := hl i (by simp)
    have px : ∀ f : Nat → Nat, (part e (bytesOf f n).toArray (i * 1)).run P w = .ok (.int .u8 ((f i : Nat) : Int)) w := fun f => by
      simp [part, isAgg, run_underlying he, bytesOf_get f n i hi]
    have pe : (Op.equalIn (d + 1) e (.int .u8 ((f i : Nat) : Int)) (.int .u8 ((g i : Nat) : Int))).run P w = .ok (f i == g i) w := by
      rw [run_equalIn_int w d e .u8 .u8 _ _ he]
      congr 1
      rw [Bool.eq_iff_iff]
      simp
      omega
    simp only [List.forIn_cons, Sem.run_bind, px, pe, Result.andThen_ok, List.all_cons]
    cases hb : (f i == g i)
    · simp
    · simp only [Bool.not_true, Bool.false_eq_true, if_false, Sem.run_pure, Result.andThen_ok, Bool.true_and]
      exact ih fun j hj => hl j (by simp [hj])
end

theorem size_u8 (w : World) : (sizeOf 5).run Tryz.prog w = .ok 1 w := by kernel_rfl
theorem eql_pages (f g : Nat → Nat) (w : World) : (binOp .eql 183 (.agg (bytesOf f 4096).toArray) (.agg (bytesOf g 4096).toArray)).run Tryz.prog w = .ok (.bool (alike f g 4096)) w := by
  rw [run_eql_struct, equalIn_bytes w 9998 183 5 4096 Tryz.underlying183 Tryz.underlying5 size_u8 f g]
  rfl

/-- Nothing but noughts. -/
def z0 : Nat → Nat := fun _ => 0
theorem z0_byte : Bytes z0 := fun _ => by unfold z0; omega
theorem zero_page (w : World) : (zeroValue 183).run Tryz.prog w = .ok (.agg (bytesOf z0 4096).toArray) w := by kernel_rfl

theorem Fr.cells {w : World} (S : Nat → Prop) (b : Nat) (hb : S b) : ∀ (vs : List Value) (o : Nat) (w0 : World), Fr S w w0 → Fr S w (w0.setCells b o vs)
  | [], _, _, h => h
  | v :: r, o, _, h => Fr.cells S b hb r (o + 1) _ (h.set ⟨b, o, none⟩ v hb)

/-! ### a map of pages -/
/-- How a page's place reads. -/
def ptrElem : Value → Option (DataW Unit × List MemPlace)
  | .pointer none => some (.nil, [])
  | .pointer (some ⟨b, 0, none⟩) => some (.lit (.int .i64 b), [])
  | _ => none
theorem ptrElem_some {v : Value} {b : Nat} {ps : List MemPlace} (h : ptrElem v = some (.lit (.int .i64 b), ps)) : v = .pointer (some ⟨b, 0, none⟩) := by
  unfold ptrElem at h
  split at h
  · cases h
  · simp only [Option.some.injEq, Prod.mk.injEq, DataW.lit.injEq, Lit.int.injEq, true_and] at h
    rw [show _ = b from Int.ofNat_inj.1 h.1]
  · cases h
theorem ptrElem_nil {v : Value} {ps : List MemPlace} (h : ptrElem v = some (.nil, ps)) : v = .pointer none := by
  unfold ptrElem at h
  split at h
  · rfl
  · cases h
  · cases h

/-- Block bm is a map of pages: at each key x below N, g x is the page's block. -/
structure MP (w : World) (bm N : Nat) (g : Int → Option Nat) : Prop where
  ex : ∃ D, w.ownsMap Tryz.prog 3 ptrElem bm N D ∧ (∀ x, Maps.has D (.int .i64 x) = (g x).isSome) ∧ ∀ x b, g x = some b → D.atKey (.int .i64 x) .nil = .lit (.int .i64 b)
  dom : ∀ x b, g x = some b → 0 ≤ x ∧ x < (N : Int)

theorem MP.lt {w : World} {bm N : Nat} {g : Int → Option Nat} (h : MP w bm N g) : bm < w.heap.size := by
  obtain ⟨D, h1, _⟩ := h.ex
  exact h1.lt
theorem MP.made (w : World) (N : Nat) : MP (w.alloc (.map #[] 0)) w.heap.size N (fun _ => none) :=
  ⟨⟨.map [], (World.ownsMap_made w _ _ _).mono (Nat.zero_le _), fun _ => rfl, fun _ _ h => by cases h⟩, fun _ _ h => by cases h⟩
theorem MP.fr {w w' : World} {bm N : Nat} {g : Int → Option Nat} (h : MP w bm N g) {S : Nat → Prop} (k : Fr S w w') (hS : ¬ S bm) : MP w' bm N g := by
  have hlt := h.lt
  obtain ⟨⟨D, ⟨es, clock, hb, r⟩, h2⟩, h3⟩ := h
  exact ⟨⟨D, ⟨es, clock, (k.block bm hlt hS).trans hb, r⟩, h2⟩, h3⟩

theorem zero_ptr (w : World) : (zeroValue 111).run Tryz.prog w = .ok (.pointer none) w := by kernel_rfl

/-- v, there := m[x]. -/
def at_ (g : Int → Option Nat) (x : Int) : Option Addr := (g x).map fun b => ⟨b, 0, none⟩
theorem MP.look {w : World} {bm N : Nat} {g : Int → Option Nat} (h : MP w bm N g) (x : Int) (hx : (Lit.int .i64 x).wf = true) :
    (Instr.lookup 108 (.map (some bm)) (.int .i64 x) true).run Tryz.prog w = .ok (.tuple #[.pointer (at_ g x), .bool (g x).isSome]) w := by
  obtain ⟨D, h1, h2, h3⟩ := h.ex
  obtain ⟨v, ps, hr, hv⟩ := h1.look_ok keyed_int Tryz.underlying108 (zero_ptr w) (zd := .nil) (zp := []) rfl (keyOf_int_mk Tryz.underlying3 hx)
  rw [hr, h2 x]
  unfold at_
  cases e : g x with
  | none =>
    rw [atKey_of_not_has (by rw [h2, e]; rfl)] at hv
    rw [ptrElem_nil hv]; rfl
  | some b =>
    rw [h3 x b e] at hv
    rw [ptrElem_some hv]; rfl

/-- What delete leaves. -/
def without (g : Int → Option Nat) (x : Int) : Int → Option Nat := fun y => if y = x then none else g y
/-- What m[x] = page leaves. -/
def withp (g : Int → Option Nat) (x : Int) (b : Nat) : Int → Option Nat := fun y => if y = x then some b else g y

theorem MP.drop {w : World} {bm N : Nat} {g : Int → Option Nat} (h : MP w bm N g) (x : Int) (hx : (Lit.int .i64 x).wf = true) (ty : TypeId) :
    ∃ w', (Builtin.delete_ #[108, 3] ty #[.map (some bm), .int .i64 x]).run Tryz.prog w = .ok (.tuple #[]) w' ∧ MP w' bm N (without g x) ∧ Fr (· = bm) w w' := by
  obtain ⟨⟨D, h1, h2, h3⟩, h4⟩ := h
  obtain ⟨w', r1, r2, r3⟩ := h1.drop keyed_int Tryz.underlying108 (keyOf_int_mk Tryz.underlying3 hx) ty
  refine ⟨w', r1, ⟨⟨_, r2, fun y => ?_, fun y b hy => ?_⟩, fun y b hy => ?_⟩, Fr.grown r3.grown (fun g hg => by cases hg; rfl)⟩
  · unfold without
    by_cases e : y = x
    · subst e; rw [if_pos rfl, has_del_same]; rfl
    · rw [if_neg e, has_del_other (lit_ne e), h2]
  · unfold without at hy
    by_cases e : y = x
    · rw [if_pos e] at hy; cases hy
    · rw [if_neg e] at hy
      rw [atKey_del_other (lit_ne e), h3 y b hy]
  · unfold without at hy
    by_cases e : y = x
    · rw [if_pos e] at hy; cases hy
    · rw [if_neg e] at hy
      exact h4 y b hy

theorem MP.sized {w : World} {bm n N : Nat} {g : Int → Option Nat} {D : DataW Unit} (h : w.ownsMap Tryz.prog 3 ptrElem bm n D) (hh : ∀ x, Maps.has D (.int .i64 x) = (g x).isSome) (dom : ∀ x b, g x = some b → 0 ≤ x ∧ x < (N : Int)) :
    w.ownsMap Tryz.prog 3 ptrElem bm N D := by
  obtain ⟨es, clock, hb, F, hs, rfl⟩ := h
  refine ⟨es, clock, hb, F, ?_, rfl⟩
  have hk := fit_keys F
  have ha := fit_apart keyed_int F
  have ei : ∀ p ∈ es.toList.map (WideElems.rg Tryz.prog 3 ptrElem), ∃ y, p.1 = .int .i64 y := fun p hp => by
    obtain ⟨v, hv⟩ := hk p hp
    rw [keyOf_int Tryz.underlying3] at hv
    cases v <;> simp [mapKey, Tryz.underlying3] at hv
    exact ⟨_, hv.2.symm⟩
  have hl : (es.toList.map (WideElems.rg Tryz.prog 3 ptrElem)).length = es.size := by simp
  generalize es.toList.map (WideElems.rg Tryz.prog 3 ptrElem) = L at ha ei hh hl
  rw [← hl]
  have t := tally N (L.map fun p => match p.1 with | .int _ y => y | _ => 0) (by
    rw [List.pairwise_map]
    have : L.Pairwise (fun x y => x ∈ L ∧ y ∈ L ∧ x.1 ≠ y.1) := List.Pairwise.imp_of_mem (fun {a b} h1 h2 h3 => ⟨h1, h2, h3⟩) ha
    refine this.imp (fun {a b} h => ?_)
    obtain ⟨h1, h2, h3⟩ := h
    obtain ⟨y, hy⟩ := ei a h1
    obtain ⟨z, hz⟩ := ei b h2
    rw [hy, hz] at h3 ⊢
    exact fun e => h3 (by simpa using e)) (fun x hx => by
    obtain ⟨p, hp, rfl⟩ := List.mem_map.1 hx
    obtain ⟨y, hy⟩ := ei p hp
    have e1 : Maps.has (DataW.map (L.foldr DataW.insert [])) (.int .i64 y) = true := by
      rw [has_eq, List.any_eq_true]
      exact ⟨p, (WideShapes.sorted_perm L).mem_iff.2 hp, by rw [hy]; simp [Lit.sameKey]⟩
    rw [hh] at e1
    obtain ⟨b, hb⟩ := Option.isSome_iff_exists.1 e1
    simp only [hy]
    exact dom y b hb)
  simpa using t

theorem MP.store {w : World} {bm N : Nat} {g : Int → Option Nat} (h : MP w bm N g) (x : Int) (b : Nat) (hx : (Lit.int .i64 x).wf = true) (h0 : 0 ≤ x) (h1 : x < (N : Int)) (hN : N < maxLen) :
    ∃ w', (Instr.mapUpdate 108 (.map (some bm)) (.int .i64 x) (.pointer (some ⟨b, 0, none⟩))).run Tryz.prog w = .ok () w' ∧ MP w' bm N (withp g x b) ∧ Fr (· = bm) w w' := by
  obtain ⟨⟨D, k1, k2, k3⟩, k4⟩ := h
  obtain ⟨w', r1, r2, r3⟩ := k1.store keyed_int Tryz.underlying108 hN (keyOf_int_mk Tryz.underlying3 hx) (show ptrElem (.pointer (some ⟨b, 0, none⟩)) = some (.lit (.int .i64 b), []) from rfl)
  have dom : ∀ y c, withp g x b y = some c → 0 ≤ y ∧ y < (N : Int) := fun y c hy => by
    unfold withp at hy
    by_cases e : y = x
    · subst e; exact ⟨h0, h1⟩
    · rw [if_neg e] at hy
      exact k4 y c hy
  have hh : ∀ y, Maps.has (D.put (.int .i64 x) (.lit (.int .i64 b))) (.int .i64 y) = (withp g x b y).isSome := fun y => by
    unfold withp
    by_cases e : y = x
    · subst e; rw [if_pos rfl, has_put_same k1.isMap (isKey_int _ hx)]; rfl
    · rw [if_neg e, has_put_other (lit_ne e), k2]
  refine ⟨w', r1, ⟨⟨_, MP.sized r2 hh dom, hh, fun y c hy => ?_⟩, dom⟩, Fr.grown r3.grown (fun g hg => by cases hg; rfl)⟩
  unfold withp at hy
  by_cases e : y = x
  · subst e
    rw [if_pos rfl] at hy
    cases hy
    rw [atKey_put_same k1.isMap (isKey_int _ hx)]
  · rw [if_neg e] at hy
    rw [atKey_put_other (lit_ne e), k3 y c hy]

end Go.Proofs.YtanlcmdnhhdhaaaGreatDoor

/- A map of counts: map[int]int; a count of 0 has no entry. -/
namespace Go.Proofs.YtanlcmdnhhdhaaaGreatDoor
open Go.RowKit Go.Maps

/-- The count of x. -/
def cI (C : Nat → Nat) (x : Int) : Nat := if 0 ≤ x then C x.toNat else 0
theorem cI_nat (C : Nat → Nat) (x : Nat) : cI C (x : Int) = C x := by unfold cI; rw [if_pos (by omega), Int.toNat_natCast]
theorem cI_neg (C : Nat → Nat) (x : Int) (h : x < 0) : cI C x = 0 := by unfold cI; rw [if_neg (by omega)]
def putC (C : Nat → Nat) (x v : Nat) : Nat → Nat := fun k => if k = x then v else C k
theorem putC_same (C : Nat → Nat) (x v : Nat) : putC C x v x = v := if_pos rfl
theorem putC_other (C : Nat → Nat) {x k : Nat} (v : Nat) (h : k ≠ x) : putC C x v k = C k := if_neg h
theorem cI_put (C : Nat → Nat) (x v : Nat) (y : Int) : cI (putC C x v) y = if y = (x : Int) then v else cI C y := by
  unfold cI putC
  by_cases h0 : 0 ≤ y
  · rw [if_pos h0, if_pos h0]
    by_cases e : y = (x : Int)
    · rw [if_pos e, if_pos (by omega)]
    · rw [if_neg e, if_neg (by omega)]
  · rw [if_neg h0, if_neg h0, if_neg (by omega)]

structure MC (w : World) (bm N : Nat) (C : Nat → Nat) : Prop where
  ex : ∃ D, w.ownsMap Tryz.prog 3 (plainElem (H := Unit) Tryz.prog 3) bm N D ∧ (∀ x : Int, D.atKey (.int .i64 x) (.lit (.int .i64 0)) = .lit (.int .i64 (cI C x : Nat))) ∧ ∀ x : Int, Maps.has D (.int .i64 x) = true → cI C x ≠ 0
  dom : ∀ x, C x ≠ 0 → x < N
theorem MC.lt {w : World} {bm N : Nat} {C : Nat → Nat} (h : MC w bm N C) : bm < w.heap.size := by
  obtain ⟨D, h1, _⟩ := h.ex
  exact h1.lt
theorem cI_zero (x : Int) : cI (fun _ => 0) x = 0 := by unfold cI; split <;> rfl
theorem MC.made (w : World) (N : Nat) : MC (w.alloc (.map #[] 0)) w.heap.size N (fun _ => 0) :=
  ⟨⟨.map [], (World.ownsMap_made w _ _ _).mono (Nat.zero_le _), fun x => by rw [cI_zero]; rfl, fun _ h => by cases h⟩, fun _ h => absurd rfl h⟩
theorem MC.fr {w w' : World} {bm N : Nat} {C : Nat → Nat} (h : MC w bm N C) {S : Nat → Prop} (k : Fr S w w') (hS : ¬ S bm) : MC w' bm N C := by
  have hlt := h.lt
  obtain ⟨⟨D, ⟨es, clock, hb, r⟩, h2⟩, h3⟩ := h
  exact ⟨⟨D, ⟨es, clock, (k.block bm hlt hS).trans hb, r⟩, h2⟩, h3⟩
theorem zero_int (w : World) : (zeroValue 3).run Tryz.prog w = .ok (.int .i64 0) w := by kernel_rfl
theorem MC.look {w : World} {bm N : Nat} {C : Nat → Nat} (h : MC w bm N C) (x : Int) (hx : (Lit.int .i64 x).wf = true) :
    (Instr.lookup 97 (.map (some bm)) (.int .i64 x) false).run Tryz.prog w = .ok (.int .i64 (cI C x : Nat)) w := by
  obtain ⟨D, h1, h2, _⟩ := h.ex
  obtain ⟨c, hr, hc, _⟩ := h1.lookup_int keyed_int Tryz.underlying97 Tryz.underlying3 (zero_int w) (keyOf_int_mk Tryz.underlying3 hx)
  rw [h2 x] at hc
  rw [hr]
  cases hc
  rfl
theorem MC.drop {w : World} {bm N : Nat} {C : Nat → Nat} (h : MC w bm N C) (x : Nat) (hx : (Lit.int .i64 (x : Int)).wf = true) (ty : TypeId) :
    ∃ w', (Builtin.delete_ #[97, 3] ty #[.map (some bm), .int .i64 (x : Int)]).run Tryz.prog w = .ok (.tuple #[]) w' ∧ MC w' bm N (putC C x 0) ∧ Fr (· = bm) w w' := by
  obtain ⟨⟨D, h1, h2, h3⟩, h4⟩ := h
  obtain ⟨w', r1, r2, r3⟩ := h1.drop keyed_int Tryz.underlying97 (keyOf_int_mk Tryz.underlying3 hx) ty
  refine ⟨w', r1, ⟨⟨_, r2, fun y => ?_, fun y hy => ?_⟩, fun y hy => ?_⟩, Fr.grown r3.grown (fun g hg => by cases hg; rfl)⟩
  · rw [cI_put]
    by_cases e : y = (x : Int)
    · subst e; rw [if_pos rfl, atKey_del_same]; rfl
    · rw [if_neg e, atKey_del_other (lit_ne e), h2]
  · rw [cI_put]
    by_cases e : y = (x : Int)
    · subst e; rw [has_del_same] at hy; cases hy
    · rw [if_neg e]
      rw [has_del_other (lit_ne e)] at hy
      exact h3 y hy
  · unfold putC at hy
    by_cases e : y = x
    · rw [if_pos e] at hy; exact absurd rfl hy
    · rw [if_neg e] at hy; exact h4 y hy
theorem MC.store {w : World} {bm N : Nat} {C : Nat → Nat} (h : MC w bm N C) (x v : Nat) (hx : x < N) (hv : v ≠ 0) (hv2 : v ≤ 4611686018427387904) (hN : N ≤ 1048576) :
    ∃ w', (Instr.mapUpdate 97 (.map (some bm)) (.int .i64 (x : Int)) (.int .i64 (v : Int))).run Tryz.prog w = .ok () w' ∧ MC w' bm N (putC C x v) ∧ Fr (· = bm) w w' := by
  obtain ⟨⟨D, h1, h2, h3⟩, h4⟩ := h
  have hw : (Lit.int .i64 (x : Int)).wf = true := WalkArith.wf_i64 (by omega)
  obtain ⟨w', r1, r2, r3⟩ := h1.store keyed_int Tryz.underlying97 (by unfold maxLen; omega) (keyOf_int_mk Tryz.underlying3 hw) (plainElem_int (H := Unit) Tryz.underlying3 (WalkArith.wf_i64 (by omega) : (Lit.int .i64 (v : Int)).wf = true))
  have hc : ∀ y : Int, Maps.has (D.put (.int .i64 (x : Int)) (.lit (.int .i64 (v : Int)))) (.int .i64 y) = true → cI (putC C x v) y ≠ 0 := fun y hy => by
    rw [cI_put]
    by_cases e : y = (x : Int)
    · rw [if_pos e]; exact hv
    · rw [if_neg e]
      rw [has_put_other (lit_ne e)] at hy
      exact h3 y hy
  have dom : ∀ y, putC C x v y ≠ 0 → y < N := fun y hy => by
    unfold putC at hy
    by_cases e : y = x
    · rw [e]; exact hx
    · rw [if_neg e] at hy; exact h4 y hy
  refine ⟨w', r1, ⟨⟨_, map_sized r2 (fun y hy => ?_), fun y => ?_, hc⟩, dom⟩, Fr.grown r3.grown (fun g hg => by cases hg; rfl)⟩
  · have := hc y hy
    unfold cI at this
    by_cases h0 : 0 ≤ y
    · rw [if_pos h0] at this
      have := dom _ this
      omega
    · rw [if_neg h0] at this; exact absurd rfl this
  · rw [cI_put]
    by_cases e : y = (x : Int)
    · subst e; rw [if_pos rfl, atKey_put_same h1.isMap (isKey_int _ hw)]
    · rw [if_neg e, atKey_put_other (lit_ne e), h2]

end Go.Proofs.YtanlcmdnhhdhaaaGreatDoor
