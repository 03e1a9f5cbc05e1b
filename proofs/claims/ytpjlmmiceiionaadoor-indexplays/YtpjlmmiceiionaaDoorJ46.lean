/- Joined: OS, S7, Y4. -/
import Derived.Test.YtpjlmmiceiionaaDoorJ00
import Derived.Deep.Fields
import Derived.Test.YtpjlmmiceiionaaDoorY3
/- Slices of structs that came in. -/
namespace Go.Proofs.YtpjlmmiceiionaaDoor
open Go.RowKit Go.ChangeShapes Go.WideShapes Go.ChangeAt
set_option maxRecDepth 10000

/-- A slice of structs of one-cell fields that was read: each field's cell holds what its reading takes. -/
theorem open_structs {H : Type} {enc : TypeId × Value → H} {P : Program} {w : World} {base : Nat} {spare : Nat → Bool} {held : Bool} {t e : TypeId} {fs : Array Field} {fuel : Nat} {cs : List Value} {x : DataW H × List MemPlace}
    (ht : P.underlying t = some (.slice e)) (hs : P.underlying e = some (.struct fs)) (hone : ∀ (i : Nat) (f : Field), fs[i]? = some f → f.offset = i ∧ P.cellsOf f.type = 1) (hC : P.cellsOf e = fs.size) (hpos : 0 < fs.size)
    (h : DataW.trod enc P w base spare held fuel t cs = some x) :
    ∃ (na : Option Addr) (m mcap : Nat), cs = [.slice na m mcap] ∧ m ≤ maxLen ∧ m ≤ mcap ∧ (na = none → mcap = 0) ∧
      ∀ i, i < m → ∃ (b o : Nat) (V : Nat → Value), na = some ⟨b, o, none⟩ ∧ b < w.heap.size ∧ ∀ (j : Nat) (f : Field), fs[j]? = some f → w.cell? ⟨b, o + (i * fs.size + j), none⟩ = some (V j) ∧ ∃ n y, DataW.trod enc P w base spare held n f.type [V j] = some y := by
  rcases DataW.trod_slice ht h with ⟨h0, _⟩ | ⟨a, len, cap, elems, rest, n, _, rfl, rfl, hb, hl, hm, hlen, hel, hsp, hns⟩
  · exact ⟨none, 0, 0, h0, Nat.zero_le _, Nat.le_refl _, fun _ => rfl, fun i hi => by omega⟩
  · have each : ∀ i, i < len → ∃ cs' : List Value, (∀ j, j < fs.size → w.cell? ((a.add (i * fs.size)).add j) = cs'[j]?) ∧ cs'.length = fs.size ∧ ∃ (k : Nat) (xs : List (DataW H × List MemPlace)), xs.length = fs.size ∧ ∀ (j : Nat) (f : Field), fs[j]? = some f → DataW.trod enc P w base spare held k f.type ((cs'.drop f.offset).take (P.cellsOf f.type)) = xs[j]? := fun i hi => by
      have h2 := hel i hi
      rw [List.getElem?_eq_getElem (by omega : i < elems.length), hC, Option.bind_eq_some_iff] at h2
      obtain ⟨cs', hcells, hy⟩ := h2
      obtain ⟨_, hclen, hcell⟩ := World.cells?_some hcells
      obtain ⟨xs, k, _, _, _, hxl, hf⟩ := DataW.trod_struct hs hy
      exact ⟨cs', hcell, hclen, k, xs, hxl, hf⟩
    refine ⟨some a, len, cap, rfl, by omega, hl, (fun h => by cases h), fun i hi => ?_⟩
    obtain ⟨b, o, sp⟩ := a
    have hspot : sp = none := by
      obtain ⟨cs0, hc0, hl0, _⟩ := each 0 (by omega)
      have c0 := hc0 0 hpos
      rw [List.getElem?_eq_getElem (by omega), Nat.zero_mul] at c0
      exact World.cell?_spot c0
    subst hspot
    obtain ⟨cs', hcell, hclen, k, xs, hxl, hf⟩ := each i hi
    have c0 := hcell 0 hpos
    rw [List.getElem?_eq_getElem (by omega)] at c0
    have hlt : b < w.heap.size := by
      have := block_lt_of_cell c0
      simpa [add_at] using this
    refine ⟨b, o, fun j => cs'.getD j undef, rfl, hlt, fun j f hj => ?_⟩
    have hjl : j < fs.size := (Array.getElem?_eq_some_iff.1 hj).1
    obtain ⟨ho, hc1⟩ := hone j f hj
    have g := hf j f hj
    rw [ho, hc1, Go.Deep.take1_drop cs' j undef (by omega), List.getElem?_eq_getElem (by omega)] at g
    refine ⟨?_, _, _, g⟩
    have := hcell j hjl
    rw [List.getElem?_eq_getElem (by omega), add_at, add_at] at this
    rw [← Nat.add_assoc, this]
    simp [List.getD, List.getElem?_eq_getElem (show j < cs'.length by omega)]

end Go.Proofs.YtpjlmmiceiionaaDoor

/- Steps that came in: lists of structs of three ints and a word. -/
namespace Go.Proofs.YtpjlmmiceiionaaDoor
open Go.RowKit Go.ChangeShapes Go.WideShapes Go.ChangeAt

/-- m steps lie in w at na: three ints and a word each. -/
def Steps (w : World) (na : Option Addr) (m : Nat) (V : Nat → Int × Int × Int × Int) : Prop := ∀ i, i < m → (∃ b o, na = some ⟨b, o, none⟩ ∧ b < w.heap.size ∧ w.cell? ⟨b, o + i * 4, none⟩ = some (.int .i64 (V i).1) ∧ w.cell? ⟨b, o + i * 4 + 1, none⟩ = some (.int .i64 (V i).2.1) ∧ w.cell? ⟨b, o + i * 4 + 2, none⟩ = some (.int .i64 (V i).2.2.1) ∧ w.cell? ⟨b, o + i * 4 + 3, none⟩ = some (.int .u64 (V i).2.2.2)) ∧ (Lit.int .i64 (V i).1).wf = true ∧ (Lit.int .i64 (V i).2.1).wf = true ∧ (Lit.int .i64 (V i).2.2.1).wf = true ∧ (Lit.int .u64 (V i).2.2.2).wf = true
theorem open_steps {H : Type} {enc : TypeId × Value → H} {w : World} {base : Nat} {spare : Nat → Bool} {held : Bool} {fuel : Nat} {cs : List Value} {x : DataW H × List MemPlace}
    (h : DataW.trod enc Tryd.prog w base spare held fuel 22 cs = some x) :
    ∃ (na : Option Addr) (m mcap : Nat) (V : Nat → Int × Int × Int × Int), cs = [.slice na m mcap] ∧ m ≤ maxLen ∧ Steps w na m V := by
  obtain ⟨na, m, mcap, h1, h2, _, _, h3⟩ := open_structs Tryd.underlying22 Tryd.underlying35 (Go.Deep.hone_of (by kernel_rfl)) (by kernel_rfl) (by decide) h
  have each : ∀ i, i < m → ∃ v : Int × Int × Int × Int, (∃ b o, na = some ⟨b, o, none⟩ ∧ b < w.heap.size ∧ w.cell? ⟨b, o + i * 4, none⟩ = some (.int .i64 v.1) ∧ w.cell? ⟨b, o + i * 4 + 1, none⟩ = some (.int .i64 v.2.1) ∧ w.cell? ⟨b, o + i * 4 + 2, none⟩ = some (.int .i64 v.2.2.1) ∧ w.cell? ⟨b, o + i * 4 + 3, none⟩ = some (.int .u64 v.2.2.2)) ∧ (Lit.int .i64 v.1).wf = true ∧ (Lit.int .i64 v.2.1).wf = true ∧ (Lit.int .i64 v.2.2.1).wf = true ∧ (Lit.int .u64 v.2.2.2).wf = true := fun i hi => by
    obtain ⟨b, of, V, e1, e2, e3⟩ := h3 i hi
    obtain ⟨c0, n0, y0, t0⟩ := e3 0 _ rfl
    obtain ⟨c1, n1, y1, t1⟩ := e3 1 _ rfl
    obtain ⟨c2, n2, y2, t2⟩ := e3 2 _ rfl
    obtain ⟨c3, n3, y3, t3⟩ := e3 3 _ rfl
    obtain ⟨a0, v0, _, w0⟩ := DataW.trod_int Tryd.underlying3 t0
    obtain ⟨a1, v1, _, w1⟩ := DataW.trod_int Tryd.underlying3 t1
    obtain ⟨a2, v2, _, w2⟩ := DataW.trod_int Tryd.underlying3 t2
    obtain ⟨a3, v3, _, w3⟩ := DataW.trod_int Tryd.underlying33 t3
    simp only [List.cons.injEq, and_true] at v0 v1 v2 v3
    rw [v0] at c0
    rw [v1] at c1
    rw [v2] at c2
    rw [v3] at c3
    exact ⟨(a0, a1, a2, a3), ⟨b, of, e1, e2, c0, c1, c2, c3⟩, w0, w1, w2, w3⟩
  refine ⟨na, m, mcap, fun i => if h : i < m then (each i h).choose else (0, 0, 0, 0), h1, h2, fun i hi => ?_⟩
  have := (each i hi).choose_spec
  simp only [dif_pos hi]
  exact this

end Go.Proofs.YtpjlmmiceiionaaDoor

/- index: a step of both: what the walk of IndexPlays leans on. -/
namespace Go.Proofs.YtpjlmmiceiionaaDoor
open Go.RowKit Go.Maps
set_option maxRecDepth 10000

theorem place7 (a : Int) (M : Nat) (hM : 0 < M) : ∃ (t : Int) (p : Nat), a.tmod M = t ∧ -(M : Int) < t ∧ t < M ∧ (t + M).tmod M = (p : Int) ∧ p < M := by
  have l1 := Int.lt_tmod_of_pos a (b := (M : Int)) (by omega)
  have l2 := Int.tmod_lt_of_pos a (b := (M : Int)) (by omega)
  have e3 : (a.tmod M + M).tmod M = (a.tmod M + M) % M := Int.tmod_eq_emod_of_nonneg (by omega)
  have e4 := Int.emod_nonneg (a.tmod M + M) (b := (M : Int)) (by omega)
  have e5 := Int.emod_lt_of_pos (a.tmod M + M) (b := (M : Int)) (by omega)
  refine ⟨_, ((a.tmod M + M) % M).toNat, rfl, by omega, l2, ?_, ?_⟩
  · rw [e3, Int.toNat_of_nonneg e4]
  · omega
/-- Whether a frame ahead of the place j is x. -/
def hasTo (L : List (Nat × CN)) (j : Nat) (x : Int) : Bool := (L.take j).any fun y => (y.1 : Int) == x
theorem hasTo_0 (L : List (Nat × CN)) (x : Int) : hasTo L 0 x = false := by unfold hasTo; simp
theorem hasTo_next {L : List (Nat × CN)} {j : Nat} {y : Nat × CN} (h : L[j]? = some y) (x : Int) : hasTo L (j + 1) x = (hasTo L j x || ((y.1 : Int) == x)) := by
  unfold hasTo
  rw [take_one h, List.any_append]; simp
theorem hasTo_all {Sg : Nat → Option CN} (hS : ∀ i d, Sg i = some d → i < 12) {n : Nat} (hn : (inL Sg).length ≤ n) (x : Int) : hasTo (inL Sg) n x = (sgI Sg x).isSome := by
  unfold hasTo sgI
  rw [List.take_of_length_le hn, Bool.eq_iff_iff, List.any_eq_true]
  constructor
  · rintro ⟨y, hy, e⟩
    have e : (y.1 : Int) = x := by simpa using e
    rw [if_pos (by omega), Option.isSome_map, ← e, Int.toNat_natCast, ((inL_mem _ _).1 hy).2]; rfl
  · intro h
    split at h
    · rw [Option.isSome_map, Option.isSome_iff_exists] at h
      obtain ⟨d, hd⟩ := h
      exact ⟨(x.toNat, d), (inL_mem _ _).2 ⟨hS _ _ hd, hd⟩, by show ((x.toNat : Int) == x) = true; simp; omega⟩
    · cases h
theorem nsk_one {k : IntKind} {x : Int} (h : (Lit.int k x).wf = true) (w : World) (t : TypeId) : NSK k (w.alloc (.cells #[.int k x] t)) (some ⟨w.heap.size, 0, none⟩) 1 (fun _ => x) := fun i hi => by
  have e : i = 0 := by omega
  subst e
  exact ⟨⟨_, 0, rfl, by simp, by rw [cell_of_row _ _ 0 _ _ _ (heap_alloc_new w _)]; rfl⟩, h⟩
theorem u8_wf (v : Int) : (Lit.int .u8 (IntKind.u8.wrap v)).wf = true := wf_wrap _ _
section
variable {w0 w w' : World} {p pm r bo o : Nat} {row : Array Value} {F F' : Nat → Nat → Nat} {Sg Sg' : Nat → Option CN}
theorem IPM.page (h : IPM w0 w p pm r bo o row F F' Sg Sg') {na nb : Option Addr} {m cap mb capb : Nat} {fa fb : Nat → Int} (NA : NSK .i64 w na m fa) (NB : NSK .u8 w nb mb fb) :
    Calls Tryd.prog 16 #[.slice na m cap, .slice nb mb capb] w fun e w' => ∃ b f, e = .returned (.slice (some ⟨b, 0, none⟩) 4096 4096) ∧ BS w' b 0 4096 f ∧ IPM w0 w' p pm r bo o row F F' Sg Sg' :=
  (page_any na nb m cap mb capb fa fb w NA NB).mono fun _ _ ⟨e, ⟨f, b⟩, _, k⟩ => ⟨_, f, e, b, h.kp k⟩
end

end Go.Proofs.YtpjlmmiceiionaaDoor
