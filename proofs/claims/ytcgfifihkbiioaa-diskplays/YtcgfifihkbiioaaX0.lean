/- Rows of bytes, copies, worlds alike but for some blocks: the ground of the disk's texts. -/
import Derived.Test.YtcgfifihkbiioaaK0
import Derived.Deep.QuietTactic
import Derived.BigQuiet
import Derived.Deep.LoopGhost
import Derived.Laws.OwnMore
import Derived.Laws.Cells
import Derived.Laws.Cover3
import Derived.Maps.OwnSet
import Derived.Laws.StructEq
import Derived.Laws.Rows
import Derived.Laws.IdiomCopy
import Derived.Laws.MakeOwn
namespace Go.Proofs.Ytcgfifihkbiioaa
open Go.RowKit Go.Maps

theorem wf_word {u : Int} (h : (Lit.int .u64 u).wf = true) : 0 ≤ u ∧ u < 18446744073709551616 := by
  simp [Lit.wf, IntKind.min, IntKind.max, IntKind.bits, IntKind.signed] at h
  omega

theorem wf_int {n : Int} (h : (Lit.int .i64 n).wf = true) : -9223372036854775808 ≤ n ∧ n ≤ 9223372036854775807 := by
  simp [Lit.wf, IntKind.min, IntKind.max, IntKind.bits, IntKind.signed] at h
  omega

/-- Draws alone. -/
def Dr (w w' : World) : Prop := ∃ m, w' = w.drewN m

theorem Dr.refl (w : World) : Dr w w := ⟨0, rfl⟩

theorem Dr.trans {a b c : World} (h : Dr a b) (k : Dr b c) : Dr a c := by
  obtain ⟨m, rfl⟩ := h; obtain ⟨n, rfl⟩ := k
  exact ⟨m + n, by rw [World.drewN_drewN]⟩

theorem Dr.kp {a b : World} (h : Dr a b) : Kp a b := by obtain ⟨m, rfl⟩ := h; exact (Kp.refl a).drewN m

def Bytes (f : Nat → Nat) : Prop := ∀ i, f i < 256

/-- m bytes lie in w in the block b from o on, and may be written. -/
structure BS (w : World) (b o m : Nat) (f : Nat → Nat) : Prop where
  lt : b < w.heap.size
  cell : ∀ i, i < m → w.cell? ⟨b, o + i, none⟩ = some (.int .u8 (f i : Nat))
  frz : ∀ i, i < m → w.frozen? ⟨b, o + i, none⟩ = false
  byte : Bytes f

theorem BS.kp {w w' : World} {b o m : Nat} {f : Nat → Nat} (h : BS w b o m f) (g : Kp w w') : BS w' b o m f :=
  ⟨Nat.lt_of_lt_of_le h.lt g.size, fun i hi => by rw [g.cell (p := ⟨b, o + i, none⟩) h.lt]; exact h.cell i hi, fun i hi => by rw [g.frz (p := ⟨b, o + i, none⟩) h.lt]; exact h.frz i hi, h.byte⟩

/-- f with v at p. -/
def upd (f : Nat → Nat) (p v : Nat) : Nat → Nat := fun i => if i = p then v else f i

theorem upd_same (f : Nat → Nat) (p v : Nat) : upd f p v p = v := if_pos rfl

theorem upd_other (f : Nat → Nat) (p v i : Nat) (h : i ≠ p) : upd f p v i = f i := if_neg h

theorem Bytes.upd {f : Nat → Nat} (h : Bytes f) (p v : Nat) (hv : v < 256) : Bytes (upd f p v) := fun i => by
  unfold Go.Proofs.Ytcgfifihkbiioaa.upd; split
  · exact hv
  · exact h i

theorem BS.set {w : World} {b o m : Nat} {f : Nat → Nat} (h : BS w b o m f) (p v : Nat) (hp : p < m) (hv : v < 256) : BS (w.setCell ⟨b, o + p, none⟩ (.int .u8 (v : Nat))) b o m (upd f p v) :=
  ⟨by rw [World.size_setCell]; exact h.lt, fun i hi => by
    by_cases e : i = p
    · subst e
      rw [World.cell?_setCell_same _ _ _ (h.cell i hi)]; simp [upd]
    · rw [World.cell?_setCell_other _ _ _ _ (by intro z; simp only [Addr.mk.injEq] at z; omega)]; simp only [upd, if_neg e]; exact h.cell i hi, fun i hi => by rw [World.frozen?_setCell]; exact h.frz i hi, h.byte.upd p v hv⟩

theorem BS.less {w : World} {b o m n : Nat} {f : Nat → Nat} (h : BS w b o m f) (hn : n ≤ m) : BS w b o n f := ⟨h.lt, fun i hi => h.cell i (by omega), fun i hi => h.frz i (by omega), h.byte⟩

theorem BS.like {w : World} {b o m : Nat} {f g : Nat → Nat} (h : BS w b o m f) (hg : ∀ i, i < m → g i = f i) (hb : Bytes g) : BS w b o m g := ⟨h.lt, fun i hi => by rw [hg i hi]; exact h.cell i hi, h.frz, hb⟩

theorem info_u8 : ∃ i, Try.prog.info? 5 = some i ∧ i.zero = some (.int .u8 0) ∧ i.size = 1 ∧ i.bytes = 1 := by
  have h : (Try.prog.info? 5).map (fun i => (i.zero, i.size, i.bytes)) = some (some (.int .u8 0), 1, 1) := by kernel_rfl
  obtain ⟨i, hi, e⟩ := Option.map_eq_some_iff.1 h
  simp only [Prod.mk.injEq] at e
  exact ⟨i, hi, e.1, e.2.1, e.2.2⟩

/-- Bytes, as cells. -/
def bytesOf (f : Nat → Nat) (n : Nat) : List Value := (List.range n).map fun i => .int .u8 ((f i : Nat) : Int)

theorem bytesOf_len (f : Nat → Nat) (n : Nat) : (bytesOf f n).length = n := by simp [bytesOf]

theorem bytesOf_get (f : Nat → Nat) (n i : Nat) (h : i < n) : (bytesOf f n)[i]? = some (.int .u8 ((f i : Nat) : Int)) := by simp [bytesOf, h]

theorem bytesOf_one (f : Nat → Nat) (n : Nat) : ∀ u ∈ bytesOf f n, u.oneCell' = true := by
  intro u hu
  simp only [bytesOf, List.mem_map] at hu
  obtain ⟨i, _, rfl⟩ := hu
  rfl

theorem bytesOf_upd (f : Nat → Nat) (n p v : Nat) : (bytesOf f n).set p (.int .u8 (v : Nat)) = bytesOf (upd f p v) n := by
  apply List.ext_getElem?
  intro i
  by_cases c : i < n
  · rw [bytesOf_get _ _ _ c, List.getElem?_set]
    by_cases e : p = i
    · subst e; rw [if_pos rfl, if_pos (by rw [bytesOf_len]; exact c), upd_same]
    · rw [if_neg e, bytesOf_get _ _ _ c, upd_other _ _ _ _ (by omega)]
  · rw [List.getElem?_eq_none (by rw [List.length_set, bytesOf_len]; omega), List.getElem?_eq_none (by rw [bytesOf_len]; omega)]

theorem bytesOf_snoc (f : Nat → Nat) (n v : Nat) : bytesOf f n ++ [.int .u8 (v : Nat)] = bytesOf (upd f n v) (n + 1) := by
  apply List.ext_getElem?
  intro i
  by_cases c : i < n
  · rw [List.getElem?_append_left (by rw [bytesOf_len]; exact c), bytesOf_get _ _ _ c, bytesOf_get _ _ _ (by omega), upd_other _ _ _ _ (by omega)]
  · rw [List.getElem?_append_right (by rw [bytesOf_len]; omega), bytesOf_len]
    by_cases c' : i = n
    · subst c'; rw [bytesOf_get _ _ _ (by omega), upd_same]; simp
    · rw [List.getElem?_eq_none (by simp; omega), List.getElem?_eq_none (by rw [bytesOf_len]; omega)]

theorem add_at (b o j : Nat) : (Addr.mk b o none).add j = ⟨b, o + j, none⟩ := by
  unfold Addr.add
  split
  · rename_i h0; subst h0; rfl
  · rfl

/-- n bytes in a block of one's own, at or above base. -/
structure OP (W : World) (base g n cap : Nat) (f : Nat → Nat) : Prop where
  row : W.ownsRow base 5 1 (.slice (some ⟨g, 0, none⟩) n cap) n (bytesOf f n)
  byte : Bytes f

theorem OP.facts {W : World} {base g n cap : Nat} {f : Nat → Nat} (h : OP W base g n cap f) : base ≤ g ∧ g < W.heap.size ∧ n ≤ cap := by
  obtain ⟨_, h | ⟨g0, cap0, cur, e, h1, h2, h3, _⟩⟩ := h.row
  · cases h.1
  · cases e
    refine ⟨h1, ?_, h3⟩
    by_cases hh : g < W.heap.size
    · exact hh
    · rw [show W.heap[g]? = none from by simp; omega] at h2
      cases h2

theorem OP.bs {W : World} {base g n cap : Nat} {f : Nat → Nat} (h : OP W base g n cap f) : BS W g 0 n f :=
  ⟨h.facts.2.1, fun i hi => by rw [Nat.zero_add, h.row.cellAt i (by omega), bytesOf_get _ _ _ hi], fun i _ => by rw [Nat.zero_add]; exact h.row.frozenAt i, h.byte⟩

theorem OP.set {W : World} {base g n cap : Nat} {f : Nat → Nat} (h : OP W base g n cap f) (p v : Nat) (hv : v < 256) : OP (W.setCell ⟨g, p, none⟩ (.int .u8 (v : Nat))) base g n cap (upd f p v) :=
  ⟨by have := (h.row.stored p (.int .u8 (v : Nat))).1; rwa [bytesOf_upd] at this, h.byte.upd p v hv⟩

theorem OP.kp {W W' : World} {base g n cap : Nat} {f : Nat → Nat} (h : OP W base g n cap f) (k : Kp W W') : OP W' base g n cap f := by
  refine ⟨?_, h.byte⟩
  have hl := h.facts.2.1
  obtain ⟨h0, h | ⟨g0, cap0, cur, e, h1, h2, h3⟩⟩ := h.row
  · cases h.1
  · cases e
    exact ⟨h0, .inr ⟨g, cap, cur, rfl, h1, by rw [k.block g hl]; exact h2, h3⟩⟩

theorem OP.like {W : World} {base g n cap : Nat} {f f' : Nat → Nat} (h : OP W base g n cap f) (hg : ∀ i, i < n → f' i = f i) (hb : Bytes f') : OP W base g n cap f' := by
  have e : bytesOf f' n = bytesOf f n := by
    simp only [bytesOf]
    apply List.map_congr_left
    intro i hi
    rw [hg i (List.mem_range.1 hi)]
  exact ⟨by rw [e]; exact h.row, hb⟩

theorem own_empty (W : World) : (W.alloc (.cells #[] 5)).ownsRow W.heap.size 5 1 (.slice (some ⟨W.heap.size, 0, none⟩) 0 0) 0 [] :=
  ⟨rfl, .inr ⟨W.heap.size, 0, #[], rfl, Nat.le_refl _, by show (W.heap.push _)[W.heap.size]? = _; exact Array.getElem?_push_size, Nat.le_refl _, Nat.zero_le _, rfl, rfl⟩⟩

theorem kp_grown {W W1 W' : World} {r : Option Nat} (h : Kp W W1) (hr : ∀ g, r = some g → W.heap.size ≤ g) (k : W1.grownBy W' r) : Kp W W' :=
  ⟨k.os.trans h.os, k.tape.trans h.tape, k.output.trans h.output, Nat.le_trans h.size k.size, fun i hi => (k.block i (Nat.lt_of_lt_of_le hi h.size) (by intro e; have := hr i e.symm; omega)).trans (h.block i hi)⟩

/-- A row of one's own that is not nil. -/
theorem own_op {W : World} {base n : Nat} {v : Value} {f : Nat → Nat} (h : W.ownsRow base 5 1 v n (bytesOf f n)) (hv : v ≠ .slice none 0 0) (hb : Bytes f) : ∃ g cap, v = .slice (some ⟨g, 0, none⟩) n cap ∧ OP W base g n cap f := by
  have h' := h
  obtain ⟨_, h | ⟨g, cap, cur, rfl, _⟩⟩ := h
  · exact absurd h.1 hv
  · exact ⟨g, cap, rfl, h', hb⟩

/-- The cells of n bytes. -/
def Cells (W : World) (b o n : Nat) (f : Nat → Nat) : Prop := ∀ i, i < n → W.cell? ⟨b, o + i, none⟩ = some (.int .u8 (f i : Nat))

theorem Cells.news {W : World} {b o n : Nat} {f : Nat → Nat} (H : Cells W b o n f) : ∀ j u, (bytesOf f n)[j]? = some u → W.cell? ((⟨b, o, none⟩ : Addr).add j) = some u := by
  intro j u hu
  have hj : j < n := by
    have := (List.getElem?_eq_some_iff.1 hu).1
    rwa [bytesOf_len] at this
  rw [bytesOf_get f n j hj] at hu
  rw [← hu, add_at]; exact H j hj

theorem BS.cells {w : World} {b o m : Nat} {f : Nat → Nat} (h : BS w b o m f) : Cells w b o m f := h.cell

/-- append([]byte{}, p...): a copy of its own. -/
theorem copy_any (W : World) (b o n cap0 : Nat) (f : Nat → Nat) (hlt : b < W.heap.size) (H : Cells W b o n f) (hb : Bytes f) (hn : n ≤ 1000000) :
    ∃ g cap W', (Builtin.append_ #[31, 31] 31 #[.slice (some ⟨W.heap.size, 0, none⟩) 0 0, .slice (some ⟨b, o, none⟩) n cap0]).run Try.prog (W.alloc (.cells #[] 5)) = .ok (.slice (some ⟨g, 0, none⟩) n cap) W' ∧ OP W' W.heap.size g n cap f ∧ Kp W W' := by
  obtain ⟨i0, hi, hz0, hz1, hz2⟩ := info_u8
  have hk : Kp W (W.alloc (.cells #[] 5)) := (Kp.refl W).alloc _
  have H1 : Cells (W.alloc (.cells #[] 5)) b o n f := fun i hi => by rw [hk.cell (p := ⟨b, o + i, none⟩) hlt]; exact H i hi
  obtain ⟨v', W', h1, h2, h3, h4⟩ := run_append_own (P := Try.prog) (W.alloc (.cells #[] 5)) W.heap.size 31 31 5 i0 (.int .u8 0) 1 1 Try.underlying31 hi hz0 hz1 hz2 rfl (by decide) _ 0 [] (own_empty W) ⟨b, o, none⟩ n cap0 (bytesOf f n) (by rw [bytesOf_len]; omega) H1.news (bytesOf_one f n) (by unfold maxLen; omega) (by omega) (by simp)
  rw [List.nil_append, Nat.zero_add] at h2
  obtain ⟨g, cap, rfl, k1⟩ := own_op h2 (fun e => by have := (h4.1 e).1; cases this) hb
  exact ⟨g, cap, W', h1, k1, kp_grown hk (fun g hg => by cases hg; exact Nat.le_refl _) h3⟩

theorem copy_none (W : World) (f : Nat → Nat) (hb : Bytes f) :
    (Builtin.append_ #[31, 31] 31 #[.slice (some ⟨W.heap.size, 0, none⟩) 0 0, .slice none 0 0]).run Try.prog (W.alloc (.cells #[] 5)) = .ok (.slice (some ⟨W.heap.size, 0, none⟩) 0 0) (W.alloc (.cells #[] 5)) ∧ OP (W.alloc (.cells #[] 5)) W.heap.size W.heap.size 0 0 f := by
  obtain ⟨i0, hi, hz0, hz1, hz2⟩ := info_u8
  exact ⟨run_append_owned_none (P := Try.prog) (w := W.alloc (.cells #[] 5)) W.heap.size 31 31 5 i0 1 Try.underlying31 hi _ 0 [] (own_empty W), own_empty W, hb⟩

/-- append(q, c) of a row of one's own. -/
theorem snoc_any (W : World) (base g n cap c : Nat) (f : Nat → Nat) (H : OP W base g n cap f) (hc : c < 256) (hbase : base ≤ W.heap.size) (hn : n ≤ 1000000) :
    ∃ g' cap' W', (Builtin.append_ #[31, 31] 31 #[.slice (some ⟨g, 0, none⟩) n cap, .slice (some ⟨W.heap.size, 0, none⟩) 1 1]).run Try.prog (W.alloc (.cells #[.int .u8 (c : Nat)] 5)) = .ok (.slice (some ⟨g', 0, none⟩) (n + 1) cap') W' ∧
      OP W' base g' (n + 1) cap' (upd f n c) ∧ (∀ W0, W0.heap.size ≤ base → Kp W0 W → Kp W0 W') := by
  obtain ⟨i0, hi, hz0, hz1, hz2⟩ := info_u8
  have H1 := H.row.alloc (.cells #[.int .u8 (c : Nat)] 5)
  have hnew : ∀ j u, ([.int .u8 (c : Nat)] : List Value)[j]? = some u → (W.alloc (.cells #[.int .u8 (c : Nat)] 5)).cell? ((⟨W.heap.size, 0, none⟩ : Addr).add j) = some u := by
    intro j u hu
    match j with
    | 0 => simp at hu; subst hu; show (W.alloc _).cell? ⟨W.heap.size, 0, none⟩ = _; rw [World.cell?_alloc_at _ _ _ _ rfl]; rfl
    | j + 1 => simp at hu
  obtain ⟨v', W', h1, h2, h3, h4⟩ := run_append_own (P := Try.prog) (W.alloc (.cells #[.int .u8 (c : Nat)] 5)) base 31 31 5 i0 (.int .u8 0) 1 1 Try.underlying31 hi hz0 hz1 hz2 rfl (by decide) _ n _ H1 ⟨W.heap.size, 0, none⟩ 1 1 [.int .u8 (c : Nat)] rfl hnew (by intro u hu; simp at hu; subst hu; rfl) (by unfold maxLen; omega) (by omega) (by simp; omega)
  rw [bytesOf_snoc] at h2
  obtain ⟨g', cap', rfl, k1⟩ := own_op h2 (fun e => by have := (h4.1 e).1; cases this) (H.byte.upd _ _ hc)
  exact ⟨g', cap', W', h1, k1, fun W0 h0 hk => kp_grown (hk.alloc _) (fun g' hg => by cases hg; exact Nat.le_trans h0 H.facts.1) h3⟩

/-- An append whose run is known. -/
theorem wp_append_of {P : Program} {w : World} {o : Oper} {a : Act} {K : Act → World → Prop} {Q : Exit → Act → World → Prop} {t ty : TypeId} {vs vx v' : Value} {w' : World}
    (hr : (Builtin.append_ #[t, t] ty #[vs, vx]).run P w = .ok v' w') (s x : Operand) (ho : o.op = .call { callee := .builtin .append, args := #[s, x], argTypes := #[t, t] }) (hty : o.type = ty) (hs : a.eval s = vs) (hx : a.eval x = vx)
    (h : K (a.put o.dst v') w') : o.wp P a w K Q := by
  subst hty
  unfold Oper.wp execOp
  simp only [ho, resolve, invoke, builtin, Sem.run_bind, Sem.run_pure, Result.andThen_ok, List.map_toArray, List.map_cons, List.map_nil, hs, hx, hr]
  exact h

/-- Bytes as a string. -/
def strOf (f : Nat → Nat) (n : Nat) : ByteArray := ((List.range n).map fun i => ((f i : Nat) : Int)).foldl (fun r n => r.push (UInt8.ofNat n.toNat)) ByteArray.empty

theorem strOf_like {f g : Nat → Nat} {n : Nat} (h : ∀ i, i < n → f i = g i) : strOf f n = strOf g n := by
  unfold strOf
  congr 1
  apply List.map_congr_left
  intro i hi
  rw [h i (List.mem_range.1 hi)]

theorem string_any (w : World) (b o n cap : Nat) (f : Nat → Nat) (H : Cells w b o n f) :
    (convert 31 9 (.slice (some ⟨b, o, none⟩) n cap)).run Try.prog w = .ok (.string (strOf f n)) w := by
  rw [run_convert_bytes_string w 31 9 5 _ _ _ Try.underlying31 Try.underlying5 Try.underlying9]
  refine run_bytesToString w ⟨b, o, none⟩ n cap _ ?_
  have := run_loadCells_list (P := Try.prog) (w := w) ⟨b, o, none⟩ (bytesOf f n) H.news
  rw [bytesOf_len] at this
  rw [this]
  simp [bytesOf]

set_option maxHeartbeats 2000000 in
theorem clone_at (b o n cap : Nat) (f : Nat → Nat) (w : World) (H : BS w b o n f) (hn : n ≤ 1000000) :
    Calls Try.prog 29 #[.slice (some ⟨b, o, none⟩) n cap] w fun e w' => ∃ g cap', e = .returned (.slice (some ⟨g, 0, none⟩) n cap') ∧ OP w' w.heap.size g n cap' f ∧ Kp w w' := by
  obtain ⟨g, cap', W', h1, h2, h3⟩ := copy_any w b o n cap f H.lt H.cells H.byte hn
  have H2 : Hid _ := h2
  have H3 : Hid _ := h3
  clear H h2 h3
  have hq : (Try.prog.underlying 31) = some (.slice 5) := Try.underlying31
  have h0 : ∀ w, (binOp .eql 31 (.slice (some ⟨b, o, none⟩) n cap) (.slice none 0 0)).run Try.prog w = .ok (.bool false) w := fun w => by
    simp [binOp, run_equal_slice_nil w 31 5 _ n cap hq]
  go_enter Try.func29, Try.ntmps29
  repeat' (first | ((with_reducible refine wp_append_of h1 (.tmp 5) (.tmp 6) ?_ ?_ ?_ ?_ ?_); rfl; rfl; rfl; rfl) | go_values | go_skip | go_guarded | go_step | go_upon | go_back | (simp only []) | (go_values <;> (try go_simp)) | (go_ite <;> go_prune <;> (try go_simp)))
  go_ret
  exact ⟨g, cap', rfl, H2.out, H3.out⟩
/-- Nothing but noughts. -/
def z0 : Nat → Nat := fun _ => 0

theorem z0_byte : Bytes z0 := fun _ => by unfold z0; omega

theorem zero_page (w : World) : (zeroValue 63).run Try.prog w = .ok (.agg (bytesOf z0 4096).toArray) w := by kernel_rfl

/-- w' is w but for the blocks of S and new ones. -/
structure Fr (S : Nat → Prop) (w w' : World) : Prop where
  os : w'.os = w.os
  tape : w'.tape = w.tape
  output : w'.output = w.output
  size : w.heap.size ≤ w'.heap.size
  block : ∀ k, k < w.heap.size → ¬ S k → w'.heap[k]? = w.heap[k]?

theorem Fr.refl (S : Nat → Prop) (w : World) : Fr S w w := ⟨rfl, rfl, rfl, Nat.le_refl _, fun _ _ _ => rfl⟩

theorem Fr.mono {S T : Nat → Prop} {w w' : World} (h : Fr S w w') (hS : ∀ k, k < w.heap.size → S k → T k) : Fr T w w' := ⟨h.os, h.tape, h.output, h.size, fun k hk hT => h.block k hk (fun s => hT (hS k hk s))⟩

theorem Fr.trans {S : Nat → Prop} {a b c : World} (h : Fr S a b) (k : Fr S b c) : Fr S a c :=
  ⟨k.os.trans h.os, k.tape.trans h.tape, k.output.trans h.output, Nat.le_trans h.size k.size, fun i hi hS => (k.block i (Nat.lt_of_lt_of_le hi h.size) hS).trans (h.block i hi hS)⟩

theorem Kp.fr {w w' : World} (S : Nat → Prop) (h : Kp w w') : Fr S w w' := ⟨h.os, h.tape, h.output, h.size, fun k hk _ => h.block k hk⟩

/-- .. and so what lay ahead of all of S lies. -/
theorem Fr.kp {S : Nat → Prop} {W w w' : World} (h : Fr S w w') (k : Kp W w) (hS : ∀ i, S i → W.heap.size ≤ i) : Kp W w' :=
  ⟨h.os.trans k.os, h.tape.trans k.tape, h.output.trans k.output, Nat.le_trans k.size h.size, fun i hi => (h.block i (Nat.lt_of_lt_of_le hi k.size) (fun s => by have := hS i s; omega)).trans (k.block i hi)⟩

theorem Fr.alloc {S : Nat → Prop} {a b : World} (h : Fr S a b) (o : Obj) : Fr S a (b.alloc o) := h.trans ((Kp.refl b).alloc o |>.fr S)

theorem Fr.drew {S : Nat → Prop} {a b : World} (h : Fr S a b) : Fr S a b.drew := h.trans ((Kp.refl b).drew.fr S)

theorem Fr.set {S : Nat → Prop} {a b : World} (h : Fr S a b) (p : Addr) (v : Value) (hp : S p.block) : Fr S a (b.setCell p v) :=
  h.trans ⟨rfl, rfl, rfl, by rw [World.size_setCell]; exact Nat.le_refl _, fun k _ hk => heap_setCell_other b p k v (fun e => hk (e ▸ hp))⟩

theorem Fr.grown {S : Nat → Prop} {a b : World} {r : Option Nat} (h : a.grownBy b r) (hr : ∀ g, r = some g → S g) : Fr S a b :=
  ⟨h.os, h.tape, h.output, h.size, fun k hk hS => h.block k hk (fun e => hS (hr k e.symm))⟩

theorem Fr.cells {w : World} (S : Nat → Prop) (b : Nat) (hb : S b) : ∀ (vs : List Value) (o : Nat) (w0 : World), Fr S w w0 → Fr S w (w0.setCells b o vs)
  | [], _, _, h => h
  | v :: r, o, _, h => Fr.cells S b hb r (o + 1) _ (h.set ⟨b, o, none⟩ v hb)

theorem size_u8 (w : World) : (sizeOf 5).run Try.prog w = .ok 1 w := by kernel_rfl

/-- f with the s bytes of h from o on. -/
def layF (f : Nat → Nat) (o s : Nat) (h : Nat → Nat) : Nat → Nat := fun i => if o ≤ i ∧ i < o + s then h (i - o) else f i

theorem layF_byte {f h : Nat → Nat} (hf : Bytes f) (hh : Bytes h) (o s : Nat) : Bytes (layF f o s h) := fun i => by unfold layF; split; exact hh _; exact hf _

theorem bytesOf_lay (f h : Nat → Nat) (n o s : Nat) (hs : o + s ≤ n) : (bytesOf f n).take o ++ bytesOf h s ++ (bytesOf f n).drop (o + s) = bytesOf (layF f o s h) n := by
  apply List.ext_getElem?
  intro i
  by_cases c : i < n
  · rw [bytesOf_get _ _ _ c]
    by_cases c1 : i < o
    · rw [List.append_assoc, List.getElem?_append_left (by simp [bytesOf_len]; omega), List.getElem?_take, if_pos c1, bytesOf_get _ _ _ c]
      unfold layF; rw [if_neg (by omega)]
    · by_cases c2 : i < o + s
      · rw [List.append_assoc, List.getElem?_append_right (by simp [bytesOf_len]; omega), List.getElem?_append_left (by simp [bytesOf_len]; omega)]
        rw [show i - ((bytesOf f n).take o).length = i - o by simp [bytesOf_len]; omega, bytesOf_get _ _ _ (by omega)]
        unfold layF; rw [if_pos ⟨by omega, c2⟩]
      · rw [List.getElem?_append_right (by simp [bytesOf_len]; omega), List.getElem?_drop]
        rw [show o + s + (i - ((bytesOf f n).take o ++ bytesOf h s).length) = i by simp [bytesOf_len]; omega, bytesOf_get _ _ _ c]
        unfold layF; rw [if_neg (by omega)]
  · rw [List.getElem?_eq_none (by simp [bytesOf_len]; omega), List.getElem?_eq_none (by simp [bytesOf_len]; omega)]

theorem page_array : Try.prog.underlying 63 = some (.array (Try.prog.arrayLen 63) (Try.prog.elem 63)) := by kernel_rfl

theorem page_len : Try.prog.arrayLen 63 = 4096 := by kernel_rfl

theorem page_elem : Try.prog.elem 63 = 5 := by kernel_rfl

theorem bytesOf_like {f f' : Nat → Nat} {n : Nat} (h : ∀ i, i < n → f' i = f i) : bytesOf f' n = bytesOf f n := by
  unfold bytesOf
  apply List.map_congr_left
  intro i hi
  rw [h i (List.mem_range.1 hi)]

/-- Block b is a page with the bytes f. -/
def PG (w : World) (b : Nat) (f : Nat → Nat) : Prop := w.heap[b]? = some (.cells (bytesOf f 4096).toArray 63 (0, 0))

theorem PG.lt {w : World} {b : Nat} {f : Nat → Nat} (h : PG w b f) : b < w.heap.size := (Array.getElem?_eq_some_iff.1 h).1

theorem PG.bs {w : World} {b : Nat} {f : Nat → Nat} (h : PG w b f) (hb : Bytes f) : BS w b 0 4096 f :=
  ⟨h.lt, fun i hi => by rw [Nat.zero_add, cell_of_row w b i _ _ _ h]; simpa using bytesOf_get f 4096 i hi, fun i _ => frozen_of_row w b _ _ _ h, hb⟩

theorem PG.fr {w w' : World} {b : Nat} {f : Nat → Nat} (h : PG w b f) {S : Nat → Prop} (k : Fr S w w') (hS : ¬ S b) : PG w' b f := (k.block b h.lt hS).trans h

theorem PG.made (w : World) : PG (w.alloc (.cells (bytesOf z0 4096).toArray 63)) w.heap.size z0 := heap_alloc_new w _

/-- copy(page[o:], bytes). -/
theorem copy_page {w : World} {b : Nat} {f : Nat → Nat} (pg : PG w b f) (o s n d dc cap c : Nat) (h : Nat → Nat) (H : Cells w c n s h) (ho : o + s ≤ 4096) (hd : s ≤ d) (ty : TypeId) :
    (Builtin.copy_ #[31, 31] ty #[.slice (some ⟨b, o, none⟩) d dc, .slice (some ⟨c, n, none⟩) s cap]).run Try.prog w = .ok (goInt s) (w.setRow b (bytesOf (layF f o s h) 4096).toArray) ∧ PG (w.setRow b (bytesOf (layF f o s h) 4096).toArray) b (layF f o s h) ∧ Fr (· = b) w (w.setRow b (bytesOf (layF f o s h) 4096).toArray) := by
  refine ⟨?_, setRow_heap w b _ _ _ _ pg, ⟨rfl, rfl, rfl, by simp, fun k _ hk => setRow_other w b k _ hk⟩⟩
  have := run_copy_row Try.prog w 31 31 ty 5 b o d dc ⟨c, n, none⟩ s cap _ _ (bytesOf h s) Try.underlying31 (by kernel_rfl) pg (by rw [bytesOf_len]; exact (Nat.min_eq_left hd).symm) H.news (by simp [bytesOf_len]; omega) (bytesOf_one h s)
  rw [bytesOf_len, List.toList_toArray, bytesOf_lay f h 4096 o s ho] at this
  exact this

/-- What is left of a change: the memory's own, and new blocks. -/
def Less (S S' : Nat → Prop) (w : World) : Prop := ∀ k, S' k → S k ∨ w.heap.size ≤ k

theorem Fr.trans2 {S T : Nat → Prop} {a b c : World} (h : Fr S a b) (k : Fr T b c) (hT : ∀ i, i < a.heap.size → T i → S i) : Fr S a c :=
  ⟨k.os.trans h.os, k.tape.trans h.tape, k.output.trans h.output, Nat.le_trans h.size k.size, fun i hi hS => (k.block i (Nat.lt_of_lt_of_le hi h.size) (fun t => hS (hT i hi t))).trans (h.block i hi hS)⟩

theorem PG.like {w : World} {b : Nat} {f f' : Nat → Nat} (h : PG w b f) (hf : ∀ i, i < 4096 → f' i = f i) : PG w b f' := by unfold PG; rw [bytesOf_like hf]; exact h

theorem alloc_page (w : World) (v : Value) : (Instr.alloc 63 true v).run Try.prog w = .ok (.pointer (some ⟨w.heap.size, 0, none⟩)) (w.alloc (.cells (bytesOf z0 4096).toArray 63)) := by
  unfold Instr.alloc
  rw [Sem.run_bind, zero_page]
  rfl

section
variable {P : Program} {w : World} {ops : Array Oper} {rest : List Oper} {o : Oper} {a : Act} {Q : Exit → Act → World → Prop}
theorem wpList_build_of {v : Value} (t : TypeId) (hr : (Instr.build t #[]).run P w = .ok v w) (hg : o.guard = none) (ho : o.op = .build t #[]) (h : wpList P ops Q rest (a.put o.dst v) w) : wpList P ops Q (o :: rest) a w := by
  refine wpList_plain hg fun K hK => ?_
  unfold Oper.wp execOp
  simp only [ho, List.map_toArray, List.map_nil, Sem.run_bind, hr, Result.andThen_ok, Sem.run_pure]
  exact hK _ _ h
theorem wpList_load_of {v va : Value} (t : TypeId) (hr : (Instr.loadAt t va).run P w = .ok v w) (x : Operand) (hg : o.guard = none) (ho : o.op = .load t x) (hx : a.eval x = va) (h : wpList P ops Q rest (a.put o.dst v) w) : wpList P ops Q (o :: rest) a w := by
  refine wpList_plain hg fun K hK => ?_
  unfold Oper.wp execOp
  simp only [ho, hx, Sem.run_bind, hr, Result.andThen_ok, Sem.run_pure]
  exact hK _ _ h
theorem wpList_eql_of {v vx vy : Value} (t : TypeId) (hr : (binOp .eql t vx vy).run P w = .ok v w) (x y : Operand) (ty : TypeId) (hg : o.guard = none) (ho : o.op = .binOp .eql t x y ty) (hx : a.eval x = vx) (hy : a.eval y = vy) (hq : (eqGuard .eql t x y vx vy).run P w = .ok () w)
    (h : wpList P ops Q rest (a.put o.dst v) w) : wpList P ops Q (o :: rest) a w := by
  refine wpList_plain hg fun K hK => ?_
  unfold Oper.wp execOp
  simp only [ho, hx, hy, Sem.run_bind, hq, hr, Result.andThen_ok, Sem.run_pure]
  exact hK _ _ h
theorem wpList_alloc_of {v : Value} {w' : World} (t : TypeId) (hr : (Instr.alloc t true (.tuple #[])).run P w = .ok v w') (hg : o.guard = none) (ho : o.op = .alloc t) (h : wpList P ops Q rest (a.put o.dst v) w') : wpList P ops Q (o :: rest) a w := by
  refine wpList_plain hg fun K hK => ?_
  unfold Oper.wp execOp
  simp only [ho, Sem.run_bind, hr, Result.andThen_ok, Sem.run_pure]
  exact hK _ _ h
theorem wpList_update_of {vm vk vx : Value} {w' : World} (t : TypeId) (hr : (Instr.mapUpdate t vm vk vx).run P w = .ok () w') (m k x : Operand) (hg : o.guard = none) (ho : o.op = .mapUpdate t m k x) (hm : a.eval m = vm) (hk : a.eval k = vk) (hx : a.eval x = vx) (h : wpList P ops Q rest (a.put o.dst undef) w') : wpList P ops Q (o :: rest) a w := by
  refine wpList_plain hg fun K hK => ?_
  unfold Oper.wp execOp
  simp only [ho, hm, hk, hx, Sem.run_bind, hr, Result.andThen_ok, Sem.run_pure]
  exact hK _ _ h
theorem wpList_copy_of {v v1 v2 : Value} {w' : World} {t1 t2 : TypeId} (hr : ∀ ty, (Builtin.copy_ #[t1, t2] ty #[v1, v2]).run P w = .ok v w') (x y : Operand)
    (hg : o.guard = none) (ho : o.op = .call { callee := .builtin .copy, args := #[x, y], argTypes := #[t1, t2] }) (hx : a.eval x = v1) (hy : a.eval y = v2) (h : wpList P ops Q rest (a.put o.dst v) w') : wpList P ops Q (o :: rest) a w := by
  refine wpList_plain hg fun K hK => ?_
  unfold Oper.wp
  simp [execOp, ho, resolve, invoke, builtin, hx, hy, hr, Result.andThen]
  exact hK _ _ h
end

theorem slice_all (w : World) (b : Nat) : (Instr.sliceAt 63 (.pointer (some ⟨b, 0, none⟩)) none none none).run Try.prog w = .ok (.slice (some ⟨b, 0, none⟩) 4096 4096) w := by
  rw [run_sliceAt_array_all w _ _ page_array, page_elem, size_u8, page_len]
  simp only [Result.andThen_ok, slicedAt]
  rw [if_neg (by omega), Nat.zero_mul, add_at, Nat.zero_add, Nat.sub_zero]

/-- A row of n bytes that is block b. -/
def RB (w : World) (b n : Nat) (f : Nat → Nat) : Prop := w.heap[b]? = some (.cells (bytesOf f n).toArray 5 (0, 0))

theorem RB.lt {w : World} {b n : Nat} {f : Nat → Nat} (h : RB w b n f) : b < w.heap.size := (Array.getElem?_eq_some_iff.1 h).1

theorem RB.bs {w : World} {b n : Nat} {f : Nat → Nat} (h : RB w b n f) (hb : Bytes f) : BS w b 0 n f :=
  ⟨h.lt, fun i hi => by rw [Nat.zero_add, cell_of_row w b i _ _ _ h]; simpa using bytesOf_get f n i hi, fun i _ => frozen_of_row w b _ _ _ h, hb⟩

theorem RB.like {w : World} {b n : Nat} {f f' : Nat → Nat} (h : RB w b n f) (hf : ∀ i, i < n → f' i = f i) : RB w b n f' := by unfold RB; rw [bytesOf_like hf]; exact h

theorem RB.kp {w w' : World} {b n : Nat} {f : Nat → Nat} (h : RB w b n f) (k : Kp w w') : RB w' b n f := (k.block b h.lt).trans h

theorem RB.fr {w w' : World} {b n : Nat} {f : Nat → Nat} (h : RB w b n f) {S : Nat → Prop} (k : Fr S w w') (hS : ¬ S b) : RB w' b n f := (k.block b h.lt hS).trans h

theorem made_bytes (n : Nat) : madeCells #[Value.int .u8 0] n = (bytesOf z0 n).toArray := by
  apply Array.ext_getElem?
  intro i
  by_cases h : i < n
  · simp [madeCells, h, Nat.mod_one, bytesOf, z0]
  · simp [madeCells, h, bytesOf]

theorem make_bytes (n : Nat) (w : World) (hn : n ≤ 1000000) :
    (Instr.makeSlice 31 (.int .i64 (n : Int)) (.int .i64 (n : Int))).run Try.prog w = .ok (.slice (some ⟨w.heap.size, 0, none⟩) n n) (w.alloc (.cells (bytesOf z0 n).toArray 5)) := by
  obtain ⟨i0, hi, hz0, hz1, hz2⟩ := info_u8
  have := run_make (P := Try.prog) w 31 5 i0 (.int .u8 0) Try.underlying31 hi hz0 .i64 .i64 n n (by omega) (by omega) (by rw [hz2]; omega) (by omega)
  rw [hz1, Nat.mul_one] at this
  rw [← made_bytes]
  exact this

theorem make_page (w : World) : (Instr.makeSlice 31 (.int .i64 4096) (.int .i64 4096)).run Try.prog w = .ok (.slice (some ⟨w.heap.size, 0, none⟩) 4096 4096) (w.alloc (.cells (bytesOf z0 4096).toArray 5)) := make_bytes 4096 w (by omega)

theorem RB.made (w : World) (n : Nat) : RB (w.alloc (.cells (bytesOf z0 n).toArray 5)) w.heap.size n z0 := heap_alloc_new w _

theorem and_lim (n : Int) (M : Nat) (hM : M < 9223372036854775808) : ∃ m : Nat, bits .and .i64 n (M : Int) = (m : Int) ∧ m ≤ M := by
  have h1 : (BitVec.ofInt 64 n &&& BitVec.ofInt 64 (M : Int)).toNat ≤ M := by
    rw [BitVec.toNat_and]
    refine Nat.le_trans Nat.and_le_right ?_
    rw [BitVec.toNat_ofInt]
    omega
  refine ⟨_, ?_, h1⟩
  show IntKind.i64.wrap ((BitVec.ofInt 64 n &&& BitVec.ofInt 64 (M : Int)).toNat : Nat) = _
  rw [IntKind.wrap_i64]
  omega

theorem place_of (a : Int) (M : Nat) (hM : 0 < M) : ∃ (t : Int) (p : Nat), a.tmod M = t ∧ -(M : Int) < t ∧ t < M ∧ (t + M).tmod M = (p : Int) ∧ p < M := by
  have l1 := Int.lt_tmod_of_pos a (b := (M : Int)) (by omega)
  have l2 := Int.tmod_lt_of_pos a (b := (M : Int)) (by omega)
  have e3 : (a.tmod M + M).tmod M = (a.tmod M + M) % M := Int.tmod_eq_emod_of_nonneg (by omega)
  have e4 := Int.emod_nonneg (a.tmod M + M) (b := (M : Int)) (by omega)
  have e5 := Int.emod_lt_of_pos (a.tmod M + M) (b := (M : Int)) (by omega)
  refine ⟨_, ((a.tmod M + M) % M).toNat, rfl, by omega, l2, ?_, ?_⟩
  · rw [e3, Int.toNat_of_nonneg e4]
  · omega

theorem BS.fr {w w' : World} {b o m : Nat} {f : Nat → Nat} (h : BS w b o m f) {S : Nat → Prop} (k : Fr S w w') (hS : ¬ S b) : BS w' b o m f :=
  ⟨Nat.lt_of_lt_of_le h.lt k.size, fun i hi => by rw [World.cell?_of_block (a := ⟨b, o + i, none⟩) (k.block b h.lt hS)]; exact h.cell i hi, fun i hi => by rw [World.frozen?_of_block (a := ⟨b, o + i, none⟩) (k.block b h.lt hS)]; exact h.frz i hi, h.byte⟩

theorem Fr.cell {U : Nat → Prop} {w w' : World} (h : Fr U w w') {a : Addr} (hl : a.block < w.heap.size) (hu : ¬ U a.block) : w'.cell? a = w.cell? a := World.cell?_of_block (h.block a.block hl hu)

/-- Where a copy's bytes lie, as a Set takes them. -/
theorem OP.src {W : World} {base g n cap v : Nat} {f : Nat → Nat} (h : OP W base g (n + 1) cap (upd f n v)) (hf : Bytes f) : BS W g 0 n f := (h.bs.less (Nat.le_succ n)).like (fun i hi => (upd_other f n v i (by omega)).symm) hf

theorem OP.end_ {W : World} {base g n cap v : Nat} {f : Nat → Nat} (h : OP W base g (n + 1) cap (upd f n v)) : W.cell? ⟨g, n, none⟩ = some (.int .u8 (v : Nat)) := by
  have := h.bs.cell n (by omega)
  rwa [Nat.zero_add, upd_same] at this

end Go.Proofs.Ytcgfifihkbiioaa
