/- heat.Rank, given the sort. -/
import Derived.Test.YtpiekhiamdknjaaH5
import Derived.Laws.MakeOwn
import Derived.Below
namespace Go.Proofs.Ytpiekhiamdknjaa
open Go.RowKit Go.Sort Go.Shelf Go.Lib

/-- All that lay in w lies in w' as it did. -/
def Kp (w w' : World) : Prop := Go.RowKit.Below w.heap.size w w'
theorem Kp.refl (w : World) : Kp w w := Go.RowKit.Below.refl _ _
theorem Kp.trans {a b c : World} (h : Kp a b) (k : Kp b c) : Kp a c := Go.RowKit.Below.trans h (Go.RowKit.Below.mono k h.size)
theorem Gr.kp {w w' : World} (g : Gr w w') : Kp w w' := by
  obtain ⟨q, os, rfl⟩ := g
  exact ⟨rfl, rfl, rfl, by rw [size_grow]; exact Nat.le_add_right _ _, fun k hk => heap_grow_old (w.drewN q) os hk⟩
theorem heap_putRow (enc : Nat → Value) (w : World) (blk off : Nat) (d : Array Nat) (k : Nat) (h : k ≠ blk) : (putRow enc w blk off d).heap[k]? = w.heap[k]? := by
  simp only [putRow, mapBlock, Array.getElem?_modify]
  rw [if_neg (fun e => h e.symm)]
theorem putRow_kp {w0 w : World} (g : Kp w0 w) (enc : Nat → Value) (blk off : Nat) (d : Array Nat) (h : w0.heap.size ≤ blk) : Kp w0 (putRow enc w blk off d) :=
  ⟨g.os, g.tape, g.output, by rw [size_putRow]; exact g.size, fun k hk => (heap_putRow enc w blk off d k (by omega)).trans (g.block k hk)⟩
theorem SW.kp {w0 w1 W : World} (g : Kp w0 w1) {enc : Nat → Value} {blk off : Nat} {d : Array Nat} (S : SW enc w1 blk off d W) (h : w0.heap.size ≤ blk) : Kp w0 W := by
  obtain ⟨n, os, rfl⟩ := S
  have h1 : Kp w0 (putRow enc (Sort.ahead w1 n) blk off d) := putRow_kp (w := Sort.ahead w1 n) ⟨g.os, g.tape, g.output, g.size, g.block⟩ enc blk off d h
  exact h1.trans (Gr.kp (w := putRow enc (Sort.ahead w1 n) blk off d) ⟨0, os, rfl⟩)

theorem info_int : ∃ i, Try.prog.info? 3 = some i ∧ i.zero = some (.int .i64 0) ∧ i.size = 1 ∧ i.bytes = 8 := by
  have h : (Try.prog.info? 3).map (fun i => (i.zero, i.size, i.bytes)) = some (some (.int .i64 0), 1, 8) := by kernel_rfl
  obtain ⟨i, hi, e⟩ := Option.map_eq_some_iff.1 h
  simp only [Prod.mk.injEq] at e
  exact ⟨i, hi, e.1, e.2.1, e.2.2⟩

theorem make_ints (n : Nat) (w : World) (hn : n ≤ 1000) :
    (Instr.makeSlice 31 (.int .i64 (n : Int)) (.int .i64 (n : Int))).run Try.prog w = .ok (.slice (some ⟨w.heap.size, 0, none⟩) n n) (w.alloc (.cells (madeCells #[.int .i64 0] n) 3)) := by
  obtain ⟨i0, hi, hz0, hz1, hz2⟩ := info_int
  have := run_make (P := Try.prog) w 31 3 i0 (.int .i64 0) Try.underlying31 hi hz0 .i64 .i64 n n (by omega) (by omega) (by rw [hz2]; omega) (by omega)
  rw [hz1, Nat.mul_one] at this
  exact this

/-- A plain place, as a cell. -/
def enc0 (i : Nat) : Value := .int .i64 (i : Int)

theorem made_get (n j : Nat) (h : j < n) : (madeCells #[Value.int .i64 0] n)[j]? = some (.int .i64 0) := by
  simp [madeCells, h, Nat.mod_one]

theorem holds_made (w : World) (n : Nat) : Holds enc0 (w.alloc (.cells (madeCells #[.int .i64 0] n) 3)) w.heap.size 0 (Array.replicate n 0) := by
  intro j hj
  have hj' : j < n := by simpa using hj
  refine ⟨?_, ?_⟩
  · rw [World.cell?_alloc_at _ _ _ _ rfl]
    show (madeCells #[Value.int .i64 0] n)[0 + j]? = _
    rw [Nat.zero_add, made_get n j hj']
    simp [enc0, hj']
  · rw [World.frozen?_alloc_at _ _ _ _ rfl]

theorem putRow_cell_same {w : World} {blk : Nat} {d0 d : Array Nat} (h0 : Holds enc0 w blk 0 d0) (hs : d.size = d0.size) (j : Nat) (hj : j < d.size) : (putRow enc0 w blk 0 d).cell? ⟨blk, j, none⟩ = some (enc0 d[j]!) ∧ (putRow enc0 w blk 0 d).frozen? ⟨blk, j, none⟩ = false := by
  have := holds_putRow enc0 w blk 0 d0 d h0 hs j hj
  rwa [Nat.zero_add] at this

set_option maxHeartbeats 4000000 in
set_option maxRecDepth 100000 in
theorem rank_any (hb ho n cap : Nat) (A B : Nat → Nat) (h : Nat → Int × Int) (w : World) (H : HS w hb ho n A B h) (h0 : 0 < n) (hn : n ≤ 40) (hC : SortC n) :
    Calls Try.prog 13 #[.slice (some ⟨hb, ho, none⟩) n cap] w fun e w' => ∃ d' blk, e = .returned (.slice (some ⟨blk, 0, none⟩) n n) ∧ PermIn 0 n (Array.range n) d' ∧ SortedIn (T (ltN n h)) 0 n d' ∧ w.heap.size ≤ blk ∧ blk < w'.heap.size ∧ (∀ i, i < n → w'.cell? ⟨blk, i, none⟩ = some (.int .i64 (d'[i]! : Nat))) ∧ Kp w w' := by
  have hmk := fun w => make_ints n w (by omega)
  have z1 : (n : Int) ≤ 40 := by omega
  have z0 : (0 : Int) ≤ n := by omega
  have HC : Aside (SortC n) := hC
  have hH0 := holds_made (w.alloc (.cells #[.slice (some ⟨hb, ho, none⟩) n cap] 33)) n
  have hs0 : (w.alloc (.cells #[.slice (some ⟨hb, ho, none⟩) n cap] 33)).heap.size = w.heap.size + 1 := by simp
  rw [hs0] at hH0
  have hs1 : ((w.alloc (.cells #[.slice (some ⟨hb, ho, none⟩) n cap] 33)).alloc (.cells (madeCells #[.int .i64 0] n) 3)).heap.size = w.heap.size + 2 := by simp
  have hg1 : Gr w ((w.alloc (.cells #[.slice (some ⟨hb, ho, none⟩) n cap] 33)).alloc (.cells (madeCells #[.int .i64 0] n) 3)) := (Gr.alloc _ _).trans (Gr.alloc _ _)
  have hgw : Kp w ((w.alloc (.cells #[.slice (some ⟨hb, ho, none⟩) n cap] 33)).alloc (.cells (madeCells #[.int .i64 0] n) 3)) := hg1.kp
  have hbx : ((w.alloc (.cells #[.slice (some ⟨hb, ho, none⟩) n cap] 33)).alloc (.cells (madeCells #[.int .i64 0] n) 3)).cell? ⟨w.heap.size, 0, none⟩ = some (.slice (some ⟨hb, ho, none⟩) n cap) := by simp [go_sem]
  have hlt := H.lt
  have H1 := H.gr hg1
  have K1 : Hid _ := hH0
  have K2 : Hid _ := hs1
  have K3 : Hid _ := hgw
  have K4 : Hid _ := hbx
  have K5 : Hid _ := H1
  have K6 : Hid (hb < w.heap.size) := hlt
  clear H hC hH0 hs0 hs1 hg1 hgw hbx H1 hlt
  go_enter Try.func13, Try.ntmps13
  go_wp2_with fail
  generalize (w.alloc (.cells #[.slice (some ⟨hb, ho, none⟩) n cap] 33)).alloc (.cells (madeCells #[.int .i64 0] n) 3) = W1 at K1 K2 K3 K4 K5 ⊢
  clear hmk
  go_loopg [10] n (fun g vi wr => ∃ (i : Nat) (dk : Array Nat), vi = .int .i64 i ∧ i ≤ n ∧ n - i ≤ g ∧ dk.size = n ∧ Hid (wr = putRow enc0 W1 (w.heap.size + 1) 0 dk) ∧ Hid (∀ j, j < i → dk[j]! = j))
  case atStart => exact ⟨0, Array.replicate n 0, by go_num, Nat.zero_le _, by omega, by simp, (show Hid _ from (putRow_self enc0 W1 _ 0 _ K1.out).symm), (show Hid _ from fun j hj => by omega)⟩
  case round =>
    obtain ⟨i, dk, rfl, hi, hg, hs, L1, L2⟩ := hrel
    by_cases hlt : i < n
    · have y1 : (i : Int) < n := by omega
      have e1 : (i : Int).toNat = i := by omega
      have hc := putRow_cell_same K1.out (d := dk) (by rw [hs]; simp) i (by omega)
      rw [← L1.out] at hc
      obtain ⟨hc1, hc2⟩ := hc
      generalize dk[i]! = v at hc1
      go_wp2
      go_roundg (n - (i + 1))
      case measure => omega
      case rel =>
        refine ⟨i + 1, dk.setIfInBounds i i, by go_num, by omega, by omega, by simpa using hs, (show Hid _ from ?_), (show Hid _ from fun j hj => ?_)⟩
        · rw [L1.out]
          have := putRow_set enc0 W1 (w.heap.size + 1) 0 dk i i (by omega)
          rw [Nat.zero_add] at this
          exact this
        · by_cases e : j = i
          · subst e; exact getElem!_set_same dk j j (by omega)
          · rw [getElem!_set_other dk i j i (by omega)]; exact L2.out j (by omega)
    · have y1 : ¬ (i : Int) < n := by omega
      have e : i = n := by omega
      subst e
      have hdk : dk = Array.range i := by
        apply Array.ext
        · simpa using hs
        · intro j h1 h2
          have := L2.out j (by omega)
          rw [getElem!_pos dk j h1] at this
          simpa using this
      subst hdk
      have hwr := L1.out
      have J0 : Holds enc0 wr (w.heap.size + 1) 0 (Array.range i) := by rw [hwr]; exact holds_putRow enc0 W1 _ 0 _ _ K1.out (by simp)
      have hsz : wr.heap.size = w.heap.size + 2 := by rw [hwr, size_putRow]; exact K2.out
      have J1 : Holds (encN i) wr (w.heap.size + 1) 0 (Array.range i) := by
        intro j hj
        have hj' : j < i := by simpa using hj
        have := J0 j hj
        rw [range_get i j hj'] at this ⊢
        refine ⟨?_, this.2⟩
        rw [this.1]
        simp [enc0, encN, Nat.mod_eq_of_lt hj']
      have hcell : ∀ a v, a.block ≠ w.heap.size + 1 → W1.cell? a = some v → wr.cell? a = some v := fun a v h1 h2 => by
        rw [hwr, cell?_putRow_other _ _ _ _ _ _ (Or.inl h1)]; exact h2
      have J2 : RW wr w.heap.size hb ho i cap A B h (w.heap.size + 1) :=
        ⟨⟨by have := K6.out; omega, fun j hj => hcell _ _ (by have := K6.out; show hb ≠ _; omega) (K5.out.cell j hj), K5.out.fa, K5.out.fb, K5.out.rh⟩,
          by omega, hcell _ _ (by show w.heap.size ≠ _; omega) K4.out, by have := K6.out; omega, by omega, h0⟩
      have c1 := HC.out wr w.heap.size hb ho cap A B h (w.heap.size + 1) 0 i J2 ⟨encN_one i, J1, by omega⟩
      have J3 : Hid (Kp w wr) := by show Kp w wr; rw [hwr]; exact putRow_kp K3.out _ _ _ _ (by omega)
      have J4 : Hid (Row1 (encN i) wr (w.heap.size + 1) 0 (Array.range i)) := ⟨encN_one i, J1, by omega⟩
      clear J0 J1 J2 hcell hsz K1 K2 K3 K4 K5 K6 L1 L2 hwr HC
      unfold cmpV at c1
      go_wp2_with (go_at_call 22; with_reducible refine c1.mono ?_; rintro e w1 ⟨rfl, d', hP, hT, hW⟩)
      go_ret
      have hsd : d'.size = i := by rw [hP.1]; simp
      refine ⟨d', w.heap.size + 1, rfl, hP, hT, by omega, hW.lt J4.out.hblk, fun j hj => ?_, SW.kp J3.out hW (by omega)⟩
      have := hW.c1 J4.out (by rw [hsd]; simp) j (by rw [hsd]; exact hj)
      rw [Nat.zero_add] at this
      rw [this]
      have hlt : d'[j]! < i := permIn_all _ _ 0 i (fun x => x < i) (by simp) hP (fun k _ hk => by rw [range_get i k hk]; exact hk) j (Nat.zero_le _) hj
      simp [encN, Nat.mod_eq_of_lt hlt]

end Go.Proofs.Ytpiekhiamdknjaa
