/- The document's ledger: New, Get, party, row. -/
import Derived.Test.YtjeahpekcbogeaaGB
namespace Go.Proofs.Ytjeahpekcbogeaa
open Go.RowKit Go.Maps

/-- The document's ledger at qd, its row at b: N frames, entries E. -/
structure DL (w : World) (qd b N : Nat) (E : Int → Int × Int) : Prop where
  row : w.heap[qd]? = some (.cells #[.slice (some ⟨b, 0, none⟩) N N] 50)
  lt : b < w.heap.size
  cell : ∀ i : Nat, i < N → w.cell? ⟨b, i * 2, none⟩ = some (.int .i64 (E (i : Int)).1) ∧ w.cell? ⟨b, i * 2 + 1, none⟩ = some (.int .i64 (E (i : Int)).2)
  frz : ∀ j, w.frozen? ⟨b, j, none⟩ = false
  ok : EOk N E
  n1 : 1 ≤ N
  n2 : N ≤ 1048576
  ne : qd ≠ b
variable {W w w' : World} {qd b N : Nat} {E : Int → Int × Int}
theorem DL.qlt (h : DL w qd b N E) : qd < w.heap.size := (Array.getElem?_eq_some_iff.1 h.row).1
theorem DL.fr (h : DL w qd b N E) {S : Nat → Prop} (k : Fr S w w') (h1 : ¬ S qd) (h2 : ¬ S b) : DL w' qd b N E :=
  ⟨(k.block qd h.qlt h1).trans h.row, Nat.lt_of_lt_of_le h.lt k.size, fun i hi => ⟨(k.cell (a := ⟨b, i * 2, none⟩) h.lt h2).trans (h.cell i hi).1, (k.cell (a := ⟨b, i * 2 + 1, none⟩) h.lt h2).trans (h.cell i hi).2⟩, fun j => (World.frozen?_of_block (a := ⟨b, j, none⟩) (k.block b h.lt h2)).trans (h.frz j), h.ok, h.n1, h.n2, h.ne⟩
theorem DL.kp (h : DL w qd b N E) (k : Kp w w') : DL w' qd b N E := h.fr (k.fr (fun _ => False)) id id
theorem DL.c0 (h : DL w qd b N E) : w.cell? ⟨qd, 0, none⟩ = some (.slice (some ⟨b, 0, none⟩) N N) := by rw [cell_of_row _ _ 0 _ _ _ h.row]; rfl
theorem addr_ne {b i j : Nat} (h : i ≠ j) : (Addr.mk b i none) ≠ ⟨b, j, none⟩ := fun e => h (by cases e; rfl)
/-- A store of a whole entry. -/
theorem DL.set (h : DL w qd b N E) (x : Nat) (hx : x < N) (v : Int × Int) (hv : v.1 = 0 → v = (0, 0)) : DL ((w.setCell ⟨b, x * 2, none⟩ (.int .i64 v.1)).setCell ⟨b, x * 2 + 1, none⟩ (.int .i64 v.2)) qd b N (putE E (x : Int) v) ∧ Fr (· = b) w ((w.setCell ⟨b, x * 2, none⟩ (.int .i64 v.1)).setCell ⟨b, x * 2 + 1, none⟩ (.int .i64 v.2)) := by
  have f : Fr (· = b) w ((w.setCell ⟨b, x * 2, none⟩ (.int .i64 v.1)).setCell ⟨b, x * 2 + 1, none⟩ (.int .i64 v.2)) := ((Fr.refl (· = b) w).set ⟨b, x * 2, none⟩ _ rfl).set ⟨b, x * 2 + 1, none⟩ _ rfl
  refine ⟨⟨(f.block qd h.qlt h.ne).trans h.row, by rw [World.size_setCell, World.size_setCell]; exact h.lt, fun i hi => ?_, fun j => by rw [World.frozen?_setCell, World.frozen?_setCell]; exact h.frz j, h.ok.put (by omega) (by omega) hv, h.n1, h.n2, h.ne⟩, f⟩
  obtain ⟨c0, c1⟩ := h.cell i hi
  by_cases e : i = x
  · subst e
    rw [putE_same]
    have a0 := World.cell?_setCell_same w ⟨b, i * 2, none⟩ (.int .i64 v.1) c0
    have a1 : (w.setCell ⟨b, i * 2, none⟩ (.int .i64 v.1)).cell? ⟨b, i * 2 + 1, none⟩ = some (.int .i64 (E (i : Int)).2) := by rw [World.cell?_setCell_other _ _ _ _ (addr_ne (by omega))]; exact c1
    exact ⟨by rw [World.cell?_setCell_other _ _ _ _ (addr_ne (by omega))]; exact a0, World.cell?_setCell_same _ _ _ a1⟩
  · rw [putE_other _ _ (by omega)]
    refine ⟨?_, ?_⟩
    · rw [World.cell?_setCell_other _ _ _ _ (addr_ne (by omega)), World.cell?_setCell_other _ _ _ _ (addr_ne (by omega))]; exact c0
    · rw [World.cell?_setCell_other _ _ _ _ (addr_ne (by omega)), World.cell?_setCell_other _ _ _ _ (addr_ne (by omega))]; exact c1

/-! ### New -/
theorem infoE : ∃ i, Try.prog.info? 36 = some i ∧ i.zero = some (.agg #[.int .i64 0, .int .i64 0]) ∧ i.size = 2 ∧ i.bytes = 16 := by
  have h : (Try.prog.info? 36).map (fun i => (i.zero, i.size, i.bytes)) = some (some (.agg #[.int .i64 0, .int .i64 0]), 2, 16) := by kernel_rfl
  obtain ⟨i, hi, e⟩ := Option.map_eq_some_iff.1 h
  simp only [Prod.mk.injEq] at e
  exact ⟨i, hi, e.1, e.2.1, e.2.2⟩
def zeroE (n : Nat) : Array Value := madeCells #[Value.int .i64 0, Value.int .i64 0] (n * 2)
theorem zeroE_get (n i : Nat) (h : i < n * 2) : (zeroE n)[i]? = some (.int .i64 0) := by
  have h2 : i % 2 = 0 ∨ i % 2 = 1 := by omega
  rcases h2 with e | e <;> simp [zeroE, madeCells, h, e]
theorem make_ents (n : Nat) (w : World) (hn : n ≤ 2000000) :
    (Instr.makeSlice 48 (.int .i64 (n : Int)) (.int .i64 (n : Int))).run Try.prog w = .ok (.slice (some ⟨w.heap.size, 0, none⟩) n n) (w.alloc (.cells (zeroE n) 36)) := by
  obtain ⟨i0, hi, hz0, hz1, hz2⟩ := infoE
  have := run_make (P := Try.prog) w 48 36 i0 (.agg #[.int .i64 0, .int .i64 0]) Try.underlying48 hi hz0 .i64 .i64 n n (by omega) (by omega) (by rw [hz2]; omega) (by omega)
  rw [hz1] at this
  exact this
theorem DL.made (w : World) (n : Nat) (h1 : 1 ≤ n) (h2 : n ≤ 1048576) : DL ((w.alloc (.cells (zeroE n) 36)).alloc (.cells #[.slice (some ⟨w.heap.size, 0, none⟩) n n] 50)) (w.heap.size + 1) w.heap.size n noE := by
  have k2 : Kp (w.alloc (.cells (zeroE n) 36)) ((w.alloc (.cells (zeroE n) 36)).alloc (.cells #[.slice (some ⟨w.heap.size, 0, none⟩) n n] 50)) := (Kp.refl _).alloc _
  have e1 : (w.alloc (.cells (zeroE n) 36)).heap.size = w.heap.size + 1 := by simp
  have e2 := heap_alloc_new (w.alloc (.cells (zeroE n) 36)) (.cells #[.slice (some ⟨w.heap.size, 0, none⟩) n n] 50)
  rw [e1] at e2
  have hb := heap_alloc_new w (.cells (zeroE n) 36)
  have hb2 := (k2.block w.heap.size (by rw [e1]; omega)).trans hb
  refine ⟨e2, Nat.lt_of_lt_of_le (by rw [e1]; omega) k2.size, fun i hi => ⟨?_, ?_⟩, fun j => frozen_of_row _ _ _ _ _ hb2, EOk.no n, h1, h2, by omega⟩
  · rw [cell_of_row _ _ (i * 2) _ _ _ hb2]; exact zeroE_get n _ (by omega)
  · rw [cell_of_row _ _ (i * 2 + 1) _ _ _ hb2]; exact zeroE_get n _ (by omega)

theorem ldnew_ok (n : Nat) (w : World) (h1 : 1 ≤ n) (h2 : n ≤ 1048576) :
    Calls Try.prog 9 #[.int .i64 (n : Int)] w fun e w' => ∃ qd b, e = .returned (.tuple #[.pointer (some ⟨qd, 0, none⟩), .int .i64 0]) ∧ DL w' qd b n noE ∧ Kp w w' ∧ w.heap.size ≤ qd ∧ w.heap.size ≤ b := by
  have z1 : (1 : Int) ≤ n := by omega
  have z2 : (n : Int) ≤ 1048576 := by omega
  have hm := make_ents n w (by omega)
  have HD : Hid (DL ((w.alloc (.cells (zeroE n) 36)).alloc (.cells #[.slice (some ⟨w.heap.size, 0, none⟩) n n] 50)) (w.heap.size + 1) w.heap.size n noE) := DL.made w n h1 h2
  clear h1 h2
  generalize zeroE n = z at *
  go_enter Try.func9, Try.ntmps9
  go_wp2
  go_ret2
  exact ⟨w.heap.size + 1, w.heap.size, rfl, HD.out, ((Kp.refl w).alloc _).alloc _, by omega, by omega⟩
theorem ldnew_no (n : Int) (w : World) (h : n < 1 ∨ 1048576 < n) :
    Calls Try.prog 9 #[.int .i64 n] w fun e w' => e = .returned (.tuple #[.pointer none, .int .i64 1]) ∧ w' = w := by
  rcases h with h | h
  · go_enter Try.func9, Try.ntmps9
    go_wp2
    go_ret2
    exact ⟨rfl, rfl⟩
  · have h' : ¬ n < 1 := by omega
    go_enter Try.func9, Try.ntmps9
    go_wp2
    go_ret2
    exact ⟨rfl, rfl⟩

/-! ### Get -/
set_option maxHeartbeats 1000000 in
theorem dget_any (h : DL w qd b N E) (x : Int) :
    Calls Try.prog 15 #[.pointer (some ⟨qd, 0, none⟩), .int .i64 x] w fun e w' => e = .returned (entV (E x)) ∧ Kp w w' := by
  have k1 : Kp w (w.alloc (.cells #[.int .i64 0, .int .i64 0] 36)) := (Kp.refl w).alloc _
  have h2 := h.kp k1
  have c0 := h2.c0
  have n2 := h.n2
  have y2 : (N : Int) ≤ 2000000 := by omega
  clear n2
  by_cases h1 : x < 0
  · rw [h.ok.out (.inl h1)]
    clear h h2 k1
    unfold entV
    go_enter Try.func15, Try.ntmps15
    go_wp2_with fail
    exact bodyPost_ret (res_n rfl rfl (NX.made w _ _)) rfl ⟨rfl, (Kp.refl _).alloc _⟩
  · by_cases h3 : (N : Int) ≤ x
    · rw [h.ok.out (.inr h3)]
      clear h h2 k1
      unfold entV
      go_enter Try.func15, Try.ntmps15
      go_wp2_with fail
      exact bodyPost_ret (res_n rfl rfl (NX.made w _ _)) rfl ⟨rfl, (Kp.refl _).alloc _⟩
    · obtain ⟨n, rfl⟩ : ∃ n : Nat, x = n := ⟨x.toNat, by omega⟩
      obtain ⟨d0, d1⟩ := h2.cell n (by omega)
      have z1 : (n : Int) < N := by omega
      have z3 : ¬ n < 0 := by omega
      have z4 : ¬ N ≤ n := by omega
      clear h h2 k1
      unfold entV
      generalize (E (n : Int)).1 = s at *
      generalize (E (n : Int)).2 = q at *
      go_enter Try.func15, Try.ntmps15
      go_wp2_with fail
      exact bodyPost_ret (res_n rfl rfl (NX.made w _ _)) rfl ⟨rfl, (Kp.refl _).alloc _⟩

/-! ### party, row -/
theorem dparty_any (p : Int) (w : World) : Calls Try.prog 31 #[.int .i64 p] w fun e w' => e = .returned (.bool (fitB p true)) ∧ w' = w := by
  unfold fitB
  rw [if_pos rfl]
  by_cases h : 1 ≤ p
  · by_cases h2 : p ≤ 255
    · rw [decide_eq_true h, decide_eq_true h2]
      go_enter Try.func31, Try.ntmps31
      go_wp2
      go_ret
      exact ⟨rfl, rfl⟩
    · rw [decide_eq_true h, decide_eq_false h2]
      go_enter Try.func31, Try.ntmps31
      go_wp2
      go_ret
      exact ⟨rfl, rfl⟩
  · rw [decide_eq_false h, Bool.false_and]
    go_enter Try.func31, Try.ntmps31
    go_wp2
    go_ret
    exact ⟨rfl, rfl⟩
theorem res_5 {w : World} {fn : Func} {t1 t2 t3 t4 t5 : Tmp} {tmps : Array Value} (hf : fn.results = #[.tmp t1, .tmp t2, .tmp t3, .tmp t4, .tmp t5]) :
    (results fn tmps).run Try.prog w = .ok (.tuple #[tmps.getD t1 undef, tmps.getD t2 undef, tmps.getD t3 undef, tmps.getD t4 undef, tmps.getD t5 undef]) w := by
  simp [results, hf]
set_option maxHeartbeats 4000000 in
theorem drow_ok (n : Nat) (h1 : 1 ≤ n) (h2 : n ≤ 10) (h9 : n ≠ 9) (w : World) : Calls Try.prog 32 #[.int .i64 (n : Int)] w fun e w' => e = .returned (.tuple #[.int .i64 (mvF n), .int .i64 (mvT n), .bool (mvO n || mvG n), .bool (mvO n), .bool true]) ∧ w' = w := by
  have h : n = 1 ∨ n = 2 ∨ n = 3 ∨ n = 4 ∨ n = 5 ∨ n = 6 ∨ n = 7 ∨ n = 8 ∨ n = 10 := by omega
  clear h1 h2 h9
  rcases h with rfl | rfl | rfl | rfl | rfl | rfl | rfl | rfl | rfl
  all_goals
    go_enter Try.func32, Try.ntmps32
    go_wp2_with fail
    (try simp only [Exit.inBlock, Exit.then])
    exact bodyPost_ret (res_5 rfl) rfl ⟨rfl, rfl⟩
set_option maxHeartbeats 4000000 in
theorem drow_no (a : Int) (h : a < 1 ∨ 10 < a) (w : World) : Calls Try.prog 32 #[.int .i64 a] w fun e w' => e = .returned (.tuple #[.int .i64 0, .int .i64 0, .bool false, .bool false, .bool false]) ∧ w' = w := by
  have y : ∀ k : Int, 1 ≤ k → k ≤ 10 → (a == k) = false := fun k h1 h2 => beq_eq_false_iff_ne.2 (by omega)
  have y1 := y 1 (by omega) (by omega)
  have y2 := y 2 (by omega) (by omega)
  have y3 := y 3 (by omega) (by omega)
  have y4 := y 4 (by omega) (by omega)
  have y5 := y 5 (by omega) (by omega)
  have y6 := y 6 (by omega) (by omega)
  have y7 := y 7 (by omega) (by omega)
  have y8 := y 8 (by omega) (by omega)
  have y10 := y 10 (by omega) (by omega)
  clear y h
  go_enter Try.func32, Try.ntmps32
  go_wp2_with fail
  (try simp only [Exit.inBlock, Exit.then])
  exact bodyPost_ret (res_5 rfl) rfl ⟨rfl, rfl⟩

end Go.Proofs.Ytjeahpekcbogeaa
