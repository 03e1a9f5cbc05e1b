/- Bytes that came in: copies, strings; regions that draw their order whose callees lay blocks of their own; slices of structs that came in. -/
import Derived.Test.YtcgfifihkbiioaaX0
import Derived.BigQuiet
import Derived.Deep.Fields
import Derived.RegionTactic
import Derived.BigRegion
namespace Go.Proofs.Ytcgfifihkbiioaa
open Go.RowKit Go.ChangeShapes Go.WideShapes Go.ChangeAt

theorem slice_cap {H : Type} {enc : TypeId × Value → H} {P : Program} {w : World} {base : Nat} {spare : Nat → Bool} {held : Bool} {t e : TypeId} {fuel : Nat} {cs : List Value} {x : DataW H × List MemPlace} {na : Option Addr} {m mcap : Nat}
    (ht : P.underlying t = some (.slice e)) (h : DataW.trod enc P w base spare held fuel t cs = some x) (hc : cs = [.slice na m mcap]) : m ≤ mcap ∧ (na = none → mcap = 0) := by
  subst hc
  rcases DataW.trod_slice ht h with ⟨h0, _⟩ | ⟨a, len, cap, elems, rest, n, _, h0, rfl, hb, hl, _⟩
  · simp at h0; omega
  · simp at h0
    obtain ⟨rfl, rfl, rfl⟩ := h0
    exact ⟨by omega, fun e => by cases e⟩

/-- The bytes that came in. -/
def fb (f : Nat → Int) : Nat → Nat := fun i => (f i % 256).toNat
theorem fb_byte (f : Nat → Int) : Bytes (fb f) := fun i => by unfold fb; omega
theorem wf_u8 {n : Int} (h : (Lit.int .u8 n).wf = true) : 0 ≤ n ∧ n < 256 := by
  simp [Lit.wf, IntKind.min, IntKind.max, IntKind.bits, IntKind.signed] at h
  omega
theorem nsk_cells {w : World} {na : Option Addr} {m n : Nat} {f : Nat → Int} (N : NSK .u8 w na m f) (h0 : 0 < n) (hn : n ≤ m) : ∃ b o, na = some ⟨b, o, none⟩ ∧ b < w.heap.size ∧ Cells w b o n (fb f) := by
  obtain ⟨⟨b, o, h1, h2, _⟩, _⟩ := N 0 (by omega)
  refine ⟨b, o, h1, h2, fun i hi => ?_⟩
  obtain ⟨⟨b', o', g1, _, g3⟩, g4⟩ := N i (by omega)
  rw [h1] at g1
  cases g1
  have := wf_u8 g4
  rw [g3, show ((fb f i : Nat) : Int) = f i by unfold fb; omega]

/-- append([]byte{}, b[:n]...), n at most the length of b. -/
theorem copy_in (w : World) (na : Option Addr) (m n cap : Nat) (f : Nat → Int) (N : NSK .u8 w na m f) (hn : n ≤ m) (hc : na = none → cap = 0) (h1 : n ≤ 1000000) :
    ∃ g cap' W', (Builtin.append_ #[31, 31] 31 #[.slice (some ⟨w.heap.size, 0, none⟩) 0 0, .slice na n cap]).run Try.prog (w.alloc (.cells #[] 5)) = .ok (.slice (some ⟨g, 0, none⟩) n cap') W' ∧ OP W' w.heap.size g n cap' (fb f) ∧ Kp w W' := by
  by_cases h0 : 0 < n
  · obtain ⟨b, o, rfl, hlt, C⟩ := nsk_cells N h0 hn
    exact copy_any w b o n cap (fb f) hlt C (fb_byte f) h1
  · have e : n = 0 := by omega
    subst e
    have hk : Kp w (w.alloc (.cells #[] 5)) := (Kp.refl w).alloc _
    match na, hc with
    | none, hc =>
      have e := hc rfl
      subst e
      obtain ⟨k1, k2⟩ := copy_none w (fb f) (fb_byte f)
      exact ⟨_, _, _, k1, k2, hk⟩
    | some a, _ =>
      obtain ⟨i0, hi, hz0, hz1, hz2⟩ := info_u8
      obtain ⟨v', W', h1, h2, h3, h4⟩ := run_append_own (P := Try.prog) (w.alloc (.cells #[] 5)) w.heap.size 31 31 5 i0 (.int .u8 0) 1 1 Try.underlying31 hi hz0 hz1 hz2 rfl (by decide) _ 0 [] (own_empty w) a 0 cap [] rfl (fun j u hu => by simp at hu) (fun u hu => by simp at hu) (by decide) (by decide) (by simp)
      obtain ⟨g, cap', rfl, k1⟩ := own_op (f := fb f) (n := 0) h2 (fun e => by have := (h4.1 e).1; cases this) (fb_byte f)
      exact ⟨g, cap', W', h1, k1, kp_grown hk (fun g hg => by cases hg; exact Nat.le_refl _) h3⟩

theorem snoc_165 (W : World) (base g n cap : Nat) (f : Nat → Nat) (H : OP W base g n cap f) (hbase : base ≤ W.heap.size) (hn : n ≤ 1000000) :
    ∃ g' cap' W', (Builtin.append_ #[31, 31] 31 #[.slice (some ⟨g, 0, none⟩) n cap, .slice (some ⟨W.heap.size, 0, none⟩) 1 1]).run Try.prog (W.alloc (.cells #[.int .u8 165] 5)) = .ok (.slice (some ⟨g', 0, none⟩) (n + 1) cap') W' ∧
      OP W' base g' (n + 1) cap' (upd f n 165) ∧ (∀ W0, W0.heap.size ≤ base → Kp W0 W → Kp W0 W') := snoc_any W base g n cap 165 f H (by decide) hbase hn

theorem mixed : Try.prog.follows .mixedOrders = true := by kernel_rfl
/-- A world in which all that lay in w lies. -/
structure KeptBy (w : World) where
  v : World
  k : Kp w v

theorem KeptBy.some {w : World} : Nonempty (KeptBy w) := ⟨⟨w, Kp.refl w⟩⟩

theorem wp_region_kept {P : Program} {id : Nat} {Q : Exit → Act → World → Prop} {a : Act} {w : World} {l : List Oper} (hm : P.follows .mixedOrders = true) (hB : Region.lexB .any l.toArray = true)
    (h : wpQuiet P l.toArray (fun w' => ∃ p : KeptBy w, w' = p.v) (fun a' => ∀ w', (∃ p : KeptBy w, w' = p.v) → Q .normal a' w') l a) : (Code.region id l.toArray true).wp P Q a w :=
  wp_region_quiet (C := fun w' => ∃ p : KeptBy w, w' = p.v) hm hB ⟨⟨w.drew, (Kp.refl w).drew⟩, rfl⟩ (by simpa using h)
theorem Calls.kept_of {P : Program} {f : FuncId} {args : Array Value} {w : World} {p : KeptBy w} {v : Value}
    (h : Calls P f args p.v fun e w' => e = .returned v ∧ Kp p.v w') : Calls P f args p.v fun e w'' => e = .returned v ∧ ∃ q : KeptBy w, w'' = q.v :=
  h.mono fun _ w' ⟨he, hk⟩ => ⟨he, ⟨w', p.k.trans hk⟩, rfl⟩

theorem string_none (w : World) (cap : Nat) : (convert 31 9 (.slice none 0 cap)).run Try.prog w = .ok (.string ByteArray.empty) w := by
  rw [run_convert_bytes_string w 31 9 5 _ _ _ Try.underlying31 Try.underlying5 Try.underlying9]
  simp [Conv.bytesToString]
theorem string_in (w : World) (na : Option Addr) (m n cap : Nat) (f : Nat → Int) (N : NSK .u8 w na m f) (hn : n ≤ m) :
    (convert 31 9 (.slice na n cap)).run Try.prog w = .ok (.string (strOf (fb f) n)) w := by
  by_cases h0 : 0 < n
  · obtain ⟨b, o, rfl, _, C⟩ := nsk_cells N h0 hn
    exact string_any w b o n cap (fb f) C
  · have e : n = 0 := by omega
    subst e
    match na with
    | none => exact string_none w cap
    | some a =>
      rw [run_convert_bytes_string w 31 9 5 _ _ _ Try.underlying31 Try.underlying5 Try.underlying9]
      refine run_bytesToString w a 0 cap [] ?_
      exact run_loadCells_list (P := Try.prog) (w := w) a [] (fun j u hu => by simp at hu)


/-- A slice of structs of one-cell fields that was read: each field's cell holds what its reading takes. -/
theorem open_structs {H : Type} {enc : TypeId × Value → H} {P : Program} {w : World} {base : Nat} {spare : Nat → Bool} {held : Bool} {t e : TypeId} {fs : Array Field} {fuel : Nat} {cs : List Value} {x : DataW H × List MemPlace}
    (ht : P.underlying t = some (.slice e)) (hs : P.underlying e = some (.struct fs)) (hone : ∀ (i : Nat) (f : Field), fs[i]? = some f → f.offset = i ∧ P.cellsOf f.type = 1) (hC : P.cellsOf e = fs.size) (hpos : 0 < fs.size)
    (h : DataW.trod enc P w base spare held fuel t cs = some x) :
    ∃ (na : Option Addr) (m mcap : Nat), cs = [.slice na m mcap] ∧ m ≤ maxLen ∧ m ≤ mcap ∧ (na = none → mcap = 0) ∧
      ∀ i, i < m → ∃ (b o : Nat) (V : Nat → Value), na = some ⟨b, o, none⟩ ∧ b < w.heap.size ∧ ∀ (j : Nat) (f : Field), fs[j]? = some f → w.cell? ⟨b, o + (i * fs.size + j), none⟩ = some (V j) ∧ ∃ n y, DataW.trod enc P w base spare held n f.type [V j] = some y := by
  rcases DataW.trod_slice ht h with ⟨h0, _⟩ | ⟨a, len, cap, elems, rest, n, _, rfl, rfl, hb, hl, hm, hlen, hel, hsp, hns⟩
  · exact ⟨none, 0, 0, h0, Nat.zero_le _, Nat.le_refl _, fun _ => rfl, fun i hi => by omega⟩
  · have each : ∀ i, i < len → ∃ cs' : List Value, (∀ j, j < fs.size → w.cell? ((a.add (i * fs.size)).add j) = cs'[j]?) ∧ cs'.length = fs.size ∧ ∃ (k : Nat) (xs : List (DataW H × List MemPlace)), xs.length = fs.size ∧ ∀ (j : Nat) (f : Field), fs[j]? = some f → DataW.trod enc P w base spare held k f.type ((cs'.drop f.offset).take (P.cellsOf f.type)) = xs[j]? := fun i hi => by
      have h2 := hel i hi
      rw [List.getElem?_eq_getElem (by omega : i < elems.length), hC, Option.bind_eq_some_iff] at h2
      obtain ⟨cs', hcells, hy⟩ := h2
      obtain ⟨_, hclen, hcell⟩ := World.cells?_some hcells
      obtain ⟨xs, k, _, _, _, hxl, hf⟩ := DataW.trod_struct hs hy
      exact ⟨cs', hcell, hclen, k, xs, hxl, hf⟩
    refine ⟨some a, len, cap, rfl, by omega, hl, (fun h => by cases h), fun i hi => ?_⟩
    obtain ⟨b, o, sp⟩ := a
    have hspot : sp = none := by
      obtain ⟨cs0, hc0, hl0, _⟩ := each 0 (by omega)
      have c0 := hc0 0 hpos
      rw [List.getElem?_eq_getElem (by omega), Nat.zero_mul] at c0
      exact World.cell?_spot c0
    subst hspot
    obtain ⟨cs', hcell, hclen, k, xs, hxl, hf⟩ := each i hi
    have c0 := hcell 0 hpos
    rw [List.getElem?_eq_getElem (by omega)] at c0
    have hlt : b < w.heap.size := by
      have := block_lt_of_cell c0
      simpa [add_at] using this
    refine ⟨b, o, fun j => cs'.getD j undef, rfl, hlt, fun j f hj => ?_⟩
    have hjl : j < fs.size := (Array.getElem?_eq_some_iff.1 hj).1
    obtain ⟨ho, hc1⟩ := hone j f hj
    have g := hf j f hj
    rw [ho, hc1, Go.Deep.take1_drop cs' j undef (by omega), List.getElem?_eq_getElem (by omega)] at g
    refine ⟨?_, _, _, g⟩
    have := hcell j hjl
    rw [List.getElem?_eq_getElem (by omega), add_at, add_at] at this
    rw [← Nat.add_assoc, this]
    simp [List.getD, List.getElem?_eq_getElem (show j < cs'.length by omega)]

theorem wf_byte {n : Int} (h : (Lit.int .u8 n).wf = true) : 0 ≤ n ∧ n < 256 := by
  simp [Lit.wf, IntKind.min, IntKind.max, IntKind.bits, IntKind.signed] at h
  omega

set_option maxHeartbeats 2000000 in
set_option maxRecDepth 100000 in
theorem page_any (na nb : Option Addr) (m cap mb capb : Nat) (fa fb : Nat → Int) (w : World) (NA : NSK .i64 w na m fa) (NB : NSK .u8 w nb mb fb) :
    Calls Try.prog 13 #[.slice na m cap, .slice nb mb capb] w fun e w' => e = .returned (.slice (some ⟨w.heap.size, 0, none⟩) 4096 4096) ∧ (∃ f, BS w' w.heap.size 0 4096 f) ∧ w'.heap.size = w.heap.size + 1 ∧ Kp w w' := by
  have hmk := make_page
  have AA : Aside (NSK .i64 w na m fa) := NA
  have BB : Aside (NSK .u8 w nb mb fb) := NB
  have R0 : Hid (BS (w.alloc (.cells (bytesOf z0 4096).toArray 5)) w.heap.size 0 4096 z0) := (RB.made w 4096).bs z0_byte
  clear NA NB
  generalize (bytesOf z0 4096).toArray = A at *
  go_enter Try.func13, Try.ntmps13
  go_wp2_with fail
  clear hmk
  go_loopg [6] 64 (fun g v6 wr => ∃ (i : Nat) (f : Nat → Nat), v6 = .int .i64 i ∧ i ≤ 64 ∧ 64 - i ≤ g ∧ Hid (BS wr w.heap.size 0 4096 f) ∧ Hid (wr.heap.size = w.heap.size + 1) ∧ Hid (Kp w wr))
  case atStart => exact ⟨0, z0, by go_num, by omega, by omega, R0, (show _ = _ by simp), (Kp.refl w).alloc _⟩
  case round =>
    obtain ⟨i, f, rfl, hi, hg, HB, HS, HK⟩ := hrel
    by_cases hlt : i < m ∧ i < mb ∧ i < 64
    · obtain ⟨h1, h2, h3⟩ := hlt
      have y1 : (i : Int) < m := by omega
      have y2 : (i : Int) < mb := by omega
      have y3 : (i : Int) < 64 := by omega
      obtain ⟨⟨ab, ao, rfl, q1, q2⟩, _⟩ := AA.out i h1
      obtain ⟨⟨bb, bo, rfl, q3, q4⟩, q5⟩ := BB.out i h2
      rw [← HK.out.cell (p := ⟨ab, ao + i, none⟩) q1] at q2
      rw [← HK.out.cell (p := ⟨bb, bo + i, none⟩) q3] at q4
      obtain ⟨v, hv, hv2⟩ : ∃ v : Nat, fb i = (v : Int) ∧ v < 256 := ⟨(fb i).toNat, by have := wf_byte q5; omega, by have := wf_byte q5; omega⟩
      obtain ⟨t, p, e1, e2, e3, e4, e5⟩ := place_of (fa i) 4096 (by decide)
      rw [show ((4096 : Nat) : Int) = 4096 from rfl] at e1 e2 e3 e4
      rw [hv] at q4
      generalize fa i = x at *
      have k1 := HB.out.cell p e5
      have k2 := HB.out.frz p e5
      have H2 := (HB.out.set p v e5 hv2).kp (Kp.refl _).drew
      have K2 := (HK.out.set ⟨w.heap.size, 0 + p, none⟩ (.int .u8 (v : Nat)) (Nat.le_refl _)).drew
      rw [Nat.zero_add] at k1 k2 H2 K2
      generalize f p = u at k1
      have HB2 : Hid _ := H2
      have HK2 : Hid _ := K2
      clear hv q5 H2 K2 HB HK
      have e6 : (p : Int) < 4096 := by omega
      go_wp2_with fail
      go_region
      go_wp2
      go_roundg (64 - (i + 1))
      case measure => omega
      case rel => exact ⟨i + 1, _, by go_num, by omega, by omega, HB2, (show _ = _ by have := HS.out; simpa using this), HK2⟩
    · have out : ∀ Z : Prop, (¬ (i : Int) < m → Z) → ((i : Int) < m → ¬ (i : Int) < mb → Z) → ((i : Int) < m → (i : Int) < mb → ¬ (i : Int) < 64 → Z) → Z := fun Z k1 k2 k3 => by
        by_cases h : i < m
        · by_cases h' : i < mb
          · exact k3 (by omega) (by omega) (by omega)
          · exact k2 (by omega) (by omega)
        · exact k1 (by omega)
      refine out _ (fun y1 => ?_) (fun y1 y2 => ?_) (fun y1 y2 y3 => ?_)
      · clear out hlt
        go_wp2
        go_ret
        exact ⟨rfl, ⟨f, HB.out⟩, HS.out, HK.out⟩
      · clear out hlt
        go_wp2
        go_ret
        exact ⟨rfl, ⟨f, HB.out⟩, HS.out, HK.out⟩
      · clear out hlt
        go_wp2
        go_ret
        exact ⟨rfl, ⟨f, HB.out⟩, HS.out, HK.out⟩

end Go.Proofs.Ytcgfifihkbiioaa
