/- The insertion sort of places, as Rank asks for it. -/
import Derived.Test.YtpiekhiamdknjaaH3
namespace Go.Proofs
open Go.Shelf
def Ytpiekhiamdknjaa.lins_ren : Go.Shelf.Ren := ⟨fun | 20 => 34 | n => n, fun | 24 => 3 | 22 => 31 | 3 => 3 | 25 => 50 | 4 => 4 | 0 => 0 | n => n, fun | n => n⟩
theorem Ytpiekhiamdknjaa.lins : Go.Proofs.SlLaysF.n20 Try.prog Ytpiekhiamdknjaa.lins_ren := {
  mixed := by kernel_rfl
  f20 := ⟨Try.f34.name, by decide, Try.func34.trans (congrArg some (by kernel_rfl))⟩
  t0 := Try.underlying0
  a0 := Try.isAgg0
  z0 := Try.sizeOf0
  v0 := Try.zeroValue0
  t3 := Try.underlying3
  a3 := Try.isAgg3
  z3 := Try.sizeOf3
  v3 := Try.zeroValue3
  t4 := Try.underlying4
  a4 := Try.isAgg4
  z4 := Try.sizeOf4
  v4 := Try.zeroValue4
  t22 := Try.underlying31
  a22 := Try.isAgg31
  z22 := Try.sizeOf31
  v22 := Try.zeroValue31
  a24 := Try.isAgg3
  z24 := Try.sizeOf3
  t25 := Try.underlying50
  a25 := Try.isAgg50
  z25 := Try.sizeOf50
  v25 := Try.zeroValue50 }
end Go.Proofs
namespace Go.Proofs.Ytpiekhiamdknjaa
open Go.RowKit Go.Sort Go.Shelf Go.Lib

/-- A place of n, as the sort's elements are. -/
def encN (n : Nat) (i : Nat) : Value := .int .i64 ((i % n : Nat) : Int)
/-- The comparison of two places. -/
def cfN (n : Nat) (h : Nat → Int × Int) (x y : Nat) : Int := hcmp (h (x % n)) (h (y % n))
def ltN (n : Nat) (h : Nat → Int × Int) (x y : Nat) : Bool := hlt (h (x % n)) (h (y % n))
theorem ltOf_cfN (n : Nat) (h : Nat → Int × Int) : ltOf (cfN n h) = ltN n h := by
  funext x y; exact hcmp_neg _ _
theorem ltN_swo (n : Nat) (h : Nat → Int × Int) : SWO (ltN n h) := {
  irrefl := fun _ => hlt_swo.irrefl _
  trans := fun _ _ _ => hlt_swo.trans _ _ _
  ntrans := fun _ _ _ => hlt_swo.ntrans _ _ _ }
theorem encN_one (n : Nat) : OneCell (encN n) := fun _ => rfl

/-- What the sort of n places is told of w: the heats, the box that the comparison reads, and the block of the places, another one. -/
structure RW (w : World) (bb hb ho n cap : Nat) (A B : Nat → Nat) (h : Nat → Int × Int) (blk : Nat) : Prop where
  hs : HS w hb ho n A B h
  bblt : bb < w.heap.size
  box : w.cell? ⟨bb, 0, none⟩ = some (.slice (some ⟨hb, ho, none⟩) n cap)
  ne1 : hb ≠ blk
  ne2 : bb ≠ blk
  pos : 0 < n

theorem cell_sortWorld (enc : Nat → Value) (w : World) (blk off m : Nat) (dk : Array Nat) (os : Array Obj) (a : Addr) (v : Value) (ha : a.block < w.heap.size) (hne : a.block ≠ blk) (h : w.cell? a = some v) : (sortWorld enc w blk off m dk os).cell? a = some v := by
  unfold sortWorld
  rw [cell?_grow _ _ _ (by rw [size_putRow]; exact ha), cell?_putRow_other _ _ blk off dk _ (Or.inl hne)]
  exact h

theorem cmpLays {w : World} {bb hb ho n cap : Nat} {A B : Nat → Nat} {h : Nat → Int × Int} {blk : Nat} (R : RW w bb hb ho n cap A B h blk) (off : Nat) :
    CmpLays1 Try.prog 23 #[.pointer (some ⟨bb, 0, none⟩)] (encN n) (cfN n h) blk off n w := by
  intro m os dk _ x y
  have hsz : w.heap.size ≤ (sortWorld (encN n) w blk off m dk os).heap.size := by
    unfold sortWorld; rw [size_grow, size_putRow]; exact Nat.le_add_right _ _
  exact rank1_any bb hb ho n cap (x % n) (y % n) A B h _
    ⟨Nat.lt_of_lt_of_le R.hs.lt hsz, fun i hi => cell_sortWorld _ _ _ _ _ _ _ _ _ R.hs.lt R.ne1 (R.hs.cell i hi), R.hs.fa, R.hs.fb, R.hs.rh⟩
    (Nat.lt_of_lt_of_le R.bblt hsz) (cell_sortWorld _ _ _ _ _ _ _ _ _ R.bblt R.ne2 R.box) (Nat.mod_lt _ R.pos) (Nat.mod_lt _ R.pos)

theorem rank1_enters (args : Array Value) (w : World) : (callFunc 23 args).run Try.prog w = .ok (.enter 23 args) w := enters_of Try.func23 (by kernel_rfl) rfl args w

/-- The value of the comparison. -/
def cmpV (bb : Nat) : Value := .func (.func 23) #[] #[.pointer (some ⟨bb, 0, none⟩)]

theorem ins_any {w0 : World} {bb hb ho n cap : Nat} {A B : Nat → Nat} {h : Nat → Int × Int} {blk : Nat} (R : RW w0 bb hb ho n cap A B h blk) (off c a b : Nat) (d0 d : Array Nat) (w : World) (R1 : Row1 (encN n) w0 blk off d0)
    (h0 : d0.size = n) (hs : d.size = n) (S : SW (encN n) w0 blk off d w) (hab : a ≤ b) (hb' : b ≤ n) (hn : n < 4611686018427387904) (hi : ∀ p q, a ≤ p → p < q → q < b → d[p]! < d[q]!) :
    Calls Try.prog 34 #[.slice (some ⟨blk, off, none⟩) n c, .int .i64 a, .int .i64 b, cmpV bb] w fun e w' => e = .returned (.tuple #[]) ∧ ∃ d', PermIn a b d d' ∧ SortedIn (T (ltN n h)) a b d' ∧ SW (encN n) w0 blk off d' w' := by
  have := Any.insertionSortCmpFunc_s lins (encN n) (cfN n h) 23 #[.pointer (some ⟨bb, 0, none⟩)] blk off c a b d0 d w0 w rank1_enters (by rw [h0]; exact cmpLays R off) R1 (by rw [h0, hs]) S hab (by rw [hs]; exact hb') (by rw [hs]; exact hn)
  change Calls Try.prog 34 _ _ _ at this
  rw [hs, ltOf_cfN] at this
  refine this.mono fun e w' ⟨he, hw⟩ => ⟨he, _, ?_, ?_, hw⟩
  · exact (insertionSort_stable (ltN_swo n h) d a b hab (by rw [hs]; exact hb') hi).1
  · exact (insertionSort_stable (ltN_swo n h) d a b hab (by rw [hs]; exact hb') hi).2

end Go.Proofs.Ytpiekhiamdknjaa
