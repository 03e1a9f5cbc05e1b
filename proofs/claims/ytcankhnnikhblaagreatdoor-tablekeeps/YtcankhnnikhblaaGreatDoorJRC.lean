/- Joined: R9, R10, R11. -/
import Derived.Test.YtcankhnnikhblaaGreatDoorJRB
/- stage2: a table's words. -/
namespace Go.Proofs.YtcankhnnikhblaaGreatDoor
open Go.RowKit
set_option maxRecDepth 10000

def encU8 (u : Nat) : List Value := [.int .u64 (u : Int)]
theorem encU8_ok : Enc encU8 1 where
  len _ := rfl
  one s u h := by
    simp only [encU8, List.mem_cons, List.not_mem_nil, or_false] at h
    subst h; rfl
  pos := by decide
/-- The words lie in the block b. -/
def WU (w : World) (b : Nat) (L : List Nat) : Prop := OL encU8 37 1 w (.slice (some ⟨b, 0, none⟩) L.length 512) L
def rowU : Obj := .cells (madeCells #[.int .u64 0] 512) 37
theorem make_w512 (w : World) : (Instr.makeSlice 84 (.int .i64 0) (.int .i64 512)).run Tryz.prog w = .ok (.slice (some ⟨w.heap.size, 0, none⟩) 0 512) (w.alloc rowU) := by
  obtain ⟨i, hi, hz, hsz, hb⟩ : ∃ i : TypeInfo, Tryz.prog.info? 37 = some i ∧ i.zero = some (.int .u64 0) ∧ i.size = 1 ∧ i.bytes ≤ 1000 := ⟨_, rfl, rfl, rfl, by decide⟩
  have hr := run_make (P := Tryz.prog) w 84 37 i _ Tryz.underlying84 hi hz .i64 .i64 0 512 (by decide) (by decide) (by omega) (by decide)
  rw [hsz] at hr
  exact hr
section
variable {w w' : World} {b : Nat} {L : List Nat}
theorem WU.made (w : World) : WU (w.alloc rowU) w.heap.size [] := World.ownsRow_made w _ 512 (Nat.zero_le _) (by unfold maxLen; decide) (size_madeCells _ _)
theorem WU.kp (h : WU w b L) (k : Kp w w') : WU w' b L := OL.fr h (k.fr (fun _ => False)) (fun _ _ => id)
theorem WU.lt (h : WU w b L) : b < w.heap.size := by
  obtain ⟨na, cap, e, _, h2⟩ := OL.form h
  cases e
  rcases h2 with ⟨h3, _⟩ | ⟨g, h3, h4⟩
  · cases h3
  · cases h3; exact h4
theorem WU.cell (h : WU w b L) {i x : Nat} (hi : L[i]? = some x) : w.cell? ⟨b, i, none⟩ = some (.int .u64 (x : Int)) := by
  have := OL.cell encU8_ok h (j := 0) hi rfl
  simpa using this
theorem WU.snoc (h : WU w b L) (hL : L.length < 512) (x : Nat) : ∃ v', (Builtin.append_ #[84, 84] 84 #[.slice (some ⟨b, 0, none⟩) L.length 512, .slice (some ⟨w.heap.size, 0, none⟩) 1 1]).run Tryz.prog (w.alloc (.cells #[.int .u64 (x : Int)] 37)) = .ok (.slice (some ⟨b, 0, none⟩) (L.length + 1) 512) v' ∧ WU v' b (L ++ [x]) ∧ Fr (· = b) w v' := by
  obtain ⟨i, hi, hsz⟩ : ∃ i : TypeInfo, Tryz.prog.info? 37 = some i ∧ i.size = 1 := ⟨_, rfl, rfl⟩
  have h' := h.kp ((Kp.refl w).alloc (.cells #[.int .u64 (x : Int)] 37))
  obtain ⟨v', h1, h2, h3⟩ := run_append_fits (P := Tryz.prog) (w.alloc (.cells #[.int .u64 (x : Int)] 37)) 0 84 84 37 i 1 Tryz.underlying84 hi hsz b L.length 512 (L.flatMap encU8) h' ⟨w.heap.size, 0, none⟩ 1 1 (encU8 x) rfl (fun j u hu => by
    rw [add_at, Nat.zero_add, cell_of_row _ _ j _ _ _ (heap_alloc_new w _)]
    simpa [encU8] using hu) (encU8_ok.one x) (by omega)
  refine ⟨v', h1, ?_, (((Kp.refl w).alloc _).fr _).trans (Fr.grown h3 (fun g e => by cases e; rfl))⟩
  unfold WU OL
  rw [List.length_append, List.flatMap_append, List.flatMap_singleton]
  exact h2
end
theorem chk_word8 {k : Nat} (hk : k < 512) : chk ((4096 : Nat) : Int) (8 * k : Nat) (8 : Nat) = 0 := chk_page (by unfold Size; omega) (by omega) (by omega)
section
variable {W w w' : World} {X Y : Nat → Prop} {bt p pm N pool o : Nat} {M : Nat → Nat → Nat} {C : Nat → Nat} {Z : Nat → Bool} {root : Nat} {E : Nat → Nat → DV}
set_option maxHeartbeats 4000000 in
theorem words_any (h : FT W X w bt p pm N pool o M C root) (x : Nat) (hx : x < N) :
    Calls Tryz.prog 124 #[.pointer (some ⟨bt, 0, none⟩), .int .u64 ((x * 4096 : Nat) : Int)] w fun e w' => (∃ b, e = .returned (.slice (some ⟨b, 0, none⟩) 512 512) ∧ WU w' b ((List.range 512).map (M x)) ∧ w.heap.size ≤ b) ∧ Kp w w' := by
  have hn := h.fw.nums
  have c0 := h.tx.c0
  have k1 := wmem_any h.fw
  have k2 := frameOf_any (x * 4096) w (by omega)
  rw [Nat.mul_div_cancel _ (by decide)] at k2
  have k3 := wget_ok h.fw x hx
  have hmk : ∀ w : World, (Instr.makeSlice 84 (.int .i64 0) (.int .i64 512)).run Tryz.prog w = .ok (.slice (some ⟨w.heap.size, 0, none⟩) 0 512) (w.alloc rowU) := make_w512
  clear h hn hx
  generalize x * 4096 = a at *
  go_enter Tryz.func124, Tryz.ntmps124
  go_wp2_with (first | (go_at_call 97; with_reducible refine k1.mono ?_; rintro e w' ⟨rfl, rfl⟩) | (go_at_call 70; with_reducible refine k2.mono ?_; rintro e w' ⟨rfl, rfl⟩))
  with_reducible refine k3.mono ?_
  rintro e w1 ⟨rfl, ⟨f, B1, hf⟩, K1⟩
  have HB : Hid (BS w1 w'.heap.size 0 4096 f ∧ (∀ i, i < 512 → numb f (8 * i) 8 = M x i) ∧ Kp w' w1) := ⟨B1, hf, K1⟩
  clear k1 k2 k3 B1 hf K1 c0
  go_wp2_with fail
  go_loopg [7, 8] 513 (fun g v7 v8 wr => ∃ k : Nat, v8 = .int .i64 ((8 * k : Nat) : Int) ∧ v7 = .slice (some ⟨w1.heap.size, 0, none⟩) k 512 ∧ k ≤ 512 ∧ 513 - k ≤ g ∧ Hid (WU wr w1.heap.size ((List.range k).map (M x)) ∧ Kp w1 wr))
  case atStart => exact ⟨0, rfl, rfl, by omega, by omega, WU.made _, (Kp.refl _).alloc _⟩
  case round =>
    obtain ⟨k, rfl, rfl, hk, hg, HI⟩ := hrel
    by_cases e : k < 512
    · have kg := get_some w'.heap.size 4096 4096 (8 * k) 8 f wr (HB.out.1.kp HI.out.2) (by omega) (by omega) (by omega) (by omega) (by omega) (chk_word8 e)
      rw [HB.out.2.1 k e, show ((8 : Nat) : Int) = 8 from rfl] at kg
      obtain ⟨v', r1, u1, f1⟩ := HI.out.1.snoc (by simp; omega) (M x k)
      rw [List.length_map, List.length_range] at r1
      have H2 : Hid (WU v' w1.heap.size ((List.range (k + 1)).map (M x)) ∧ Kp w1 v') := ⟨by rw [List.range_succ, List.map_append]; exact u1, f1.kp HI.out.2 (fun i c => by omega)⟩
      have z1 : ((8 * k : Nat) : Int) < 4096 := by omega
      have z2 : ((8 * (k + 1) : Nat) : Int) = ((8 * k : Nat) : Int) + 8 := by omega
      clear HI u1 f1
      generalize hm : 8 * k = m at *
      generalize M x k = v at *
      clear hm
      go_wp2_with fail
      with_reducible refine kg.mono ?_
      rintro _ w2 ⟨rfl, rfl⟩
      clear kg
      repeat' (first | ((with_reducible refine wp_append_of r1 (.tmp 35) (.tmp 37) ?_ ?_ ?_ ?_ ?_); rfl; rfl; rfl; rfl) | go_values | go_skip | go_guarded | go_step | go_upon | go_back | (simp only []) | (go_values <;> (try go_simp)) | (go_ite <;> go_prune <;> (try go_simp)))
      go_roundg (513 - (k + 1))
      case measure => omega
      case rel => exact ⟨k + 1, by rw [z2], rfl, by omega, by omega, H2⟩
    · have ei : k = 512 := by omega
      subst ei
      go_wp2
      go_ret
      exact ⟨⟨_, rfl, HI.out.1, HB.out.2.2.size⟩, HB.out.2.2.trans HI.out.2⟩
end
end Go.Proofs.YtcankhnnikhblaaGreatDoor

/- stage2: a table's descriptors. -/
namespace Go.Proofs.YtcankhnnikhblaaGreatDoor
open Go.RowKit
set_option maxRecDepth 10000

def encD (d : DV) : List Value := [.int .i64 d.k, .int .u64 (d.a : Int), .bool d.r, .bool d.q, .bool d.x, .int .i64 d.f]
theorem encD_ok : Enc encD 6 where
  len _ := rfl
  one s u h := by
    simp only [encD, List.mem_cons, List.not_mem_nil, or_false] at h
    rcases h with rfl | rfl | rfl | rfl | rfl | rfl <;> rfl
  pos := by decide
/-- The descriptors lie in the block b. -/
def WD (w : World) (b : Nat) (L : List DV) : Prop := OL encD 62 6 w (.slice (some ⟨b, 0, none⟩) L.length 512) L
def rowD : Obj := .cells (madeCells #[.int .i64 0, .int .u64 0, .bool false, .bool false, .bool false, .int .i64 0] 3072) 62
theorem make_d512 (w : World) : (Instr.makeSlice 165 (.int .i64 0) (.int .i64 512)).run Tryz.prog w = .ok (.slice (some ⟨w.heap.size, 0, none⟩) 0 512) (w.alloc rowD) := by
  obtain ⟨i, hi, hz, hsz, hb⟩ : ∃ i : TypeInfo, Tryz.prog.info? 62 = some i ∧ i.zero = some (.agg #[.int .i64 0, .int .u64 0, .bool false, .bool false, .bool false, .int .i64 0]) ∧ i.size = 6 ∧ i.bytes ≤ 1000 := ⟨_, rfl, rfl, rfl, by decide⟩
  have hr := run_make (P := Tryz.prog) w 165 62 i _ Tryz.underlying165 hi hz .i64 .i64 0 512 (by decide) (by decide) (by omega) (by decide)
  rw [hsz] at hr
  exact hr
section
variable {w w' : World} {b : Nat} {L : List DV}
theorem WD.made (w : World) : WD (w.alloc rowD) w.heap.size [] := World.ownsRow_made w _ 512 (Nat.zero_le _) (by unfold maxLen; decide) (size_madeCells _ _)
theorem WD.kp (h : WD w b L) (k : Kp w w') : WD w' b L := OL.fr h (k.fr (fun _ => False)) (fun _ _ => id)
theorem WD.lt (h : WD w b L) : b < w.heap.size := by
  obtain ⟨na, cap, e, _, h2⟩ := OL.form h
  cases e
  rcases h2 with ⟨h3, _⟩ | ⟨g, h3, h4⟩
  · cases h3
  · cases h3; exact h4
theorem WD.cell (h : WD w b L) {i j : Nat} {x : DV} {y : Value} (hi : L[i]? = some x) (hy : (encD x)[j]? = some y) : w.cell? ⟨b, i * 6 + j, none⟩ = some y := OL.cell encD_ok h hi hy
theorem WD.snoc (h : WD w b L) (hL : L.length < 512) (x : DV) (c : Nat) (hc : ∀ j y, (encD x)[j]? = some y → w.cell? ⟨c, j, none⟩ = some y) : ∃ v', (Builtin.append_ #[165, 165] 165 #[.slice (some ⟨b, 0, none⟩) L.length 512, .slice (some ⟨c, 0, none⟩) 1 1]).run Tryz.prog w = .ok (.slice (some ⟨b, 0, none⟩) (L.length + 1) 512) v' ∧ WD v' b (L ++ [x]) ∧ Fr (· = b) w v' := by
  obtain ⟨i, hi, hsz⟩ : ∃ i : TypeInfo, Tryz.prog.info? 62 = some i ∧ i.size = 6 := ⟨_, rfl, rfl⟩
  obtain ⟨v', h1, h2, h3⟩ := run_append_fits (P := Tryz.prog) w 0 165 165 62 i 6 Tryz.underlying165 hi hsz b L.length 512 (L.flatMap encD) h ⟨c, 0, none⟩ 1 1 (encD x) rfl (fun j u hu => by rw [add_at, Nat.zero_add]; exact hc j u hu) (encD_ok.one x) (by omega)
  refine ⟨v', h1, ?_, Fr.grown h3 (fun g e => by cases e; rfl)⟩
  unfold WD OL
  rw [List.length_append, List.flatMap_append, List.flatMap_singleton]
  exact h2
end
section
variable {W w w' : World} {X Y : Nat → Prop} {bt p pm N pool o : Nat} {M : Nat → Nat → Nat} {C : Nat → Nat} {Z : Nat → Bool} {root : Nat} {E : Nat → Nat → DV}
set_option maxHeartbeats 4000000 in
theorem entries_low (h : FT W X w bt p pm N pool o M C root) (x l : Nat) (hx : x < N) :
    Calls Tryz.prog 103 #[.pointer (some ⟨bt, 0, none⟩), .int .u64 ((x * 4096 : Nat) : Int), .int .i64 (l : Int)] w fun e w' => (e = .returned (.slice (some ⟨w.heap.size, 0, none⟩) 512 512) ∧ WD w' w.heap.size ((List.range 512).map fun i => dvN 2 l (M x i))) ∧ Kp w w' := by
  have hmk : ∀ w : World, (Instr.makeSlice 165 (.int .i64 0) (.int .i64 512)).run Tryz.prog w = .ok (.slice (some ⟨w.heap.size, 0, none⟩) 0 512) (w.alloc rowD) := make_d512
  have kw := words_any (h.kps ((Kp.refl w).alloc rowD)) x hx
  have HW : Hid (∀ i, M x i < 18446744073709551616) := fun i => h.fw.word x i
  clear h hx
  generalize x * 4096 = a at *
  go_enter Tryz.func103, Tryz.ntmps103
  go_wp2_with fail
  with_reducible refine kw.mono ?_
  rintro e w1 ⟨⟨bw, rfl, U1, hbw⟩, K1⟩
  have HN : Hid (bw ≠ w.heap.size) := by have : (w.alloc rowD).heap.size = w.heap.size + 1 := by simp
                                         show bw ≠ w.heap.size; omega
  have HU : Hid (WU w1 bw ((List.range 512).map (M x)) ∧ Kp w w1) := ⟨U1, ((Kp.refl w).alloc _).trans K1⟩
  have HD : Hid (WD w1 w.heap.size ((List.range 0).map fun i => dvN 2 l (M x i))) := (WD.made w).kp K1
  clear kw U1 K1 hbw
  go_wp2_with fail
  go_loopg [7, 17] 513 (fun g v7 v17 wr => ∃ k : Nat, v17 = .int .i64 (k : Int) ∧ v7 = .slice (some ⟨w.heap.size, 0, none⟩) k 512 ∧ k ≤ 512 ∧ 513 - k ≤ g ∧ Hid (WD wr w.heap.size ((List.range k).map fun i => dvN 2 l (M x i)) ∧ WU wr bw ((List.range 512).map (M x)) ∧ Kp w wr))
  case atStart => exact ⟨0, rfl, rfl, by omega, by omega, HD.out, HU.out.1, HU.out.2⟩
  case round =>
    clear HD HU
    obtain ⟨k, rfl, rfl, hk, hg, HI⟩ := hrel
    by_cases e : k < 512
    · have cu := HI.out.2.1.cell (i := k) (x := M x k) (by rw [List.getElem?_map, List.getElem?_range e]; rfl)
      have kd := decode_dv 2 l (M x k) wr (HW.out k)
      obtain ⟨d, hd⟩ : ∃ d, d = dvN 2 l (M x k) := ⟨_, rfl⟩
      rw [← hd] at kd
      have HDd : Hid (d = dvN 2 l (M x k)) := hd
      have z1 : (k : Int) < 512 := by omega
      clear hd
      generalize decE 2 (l : Int) (M x k) = de at *
      generalize hmx : M x k = mx at *
      have HM : Hid (M x k = mx) := hmx
      clear hmx
      obtain ⟨dk, da, dr, dq, dx, df⟩ := d
      simp only at kd
      go_wp2_with fail
      with_reducible refine kd.mono ?_
      rintro _ w2 ⟨rfl, K2⟩
      obtain ⟨v4, hv4⟩ : ∃ v4, v4 = (w2.alloc (.cells #[.int .i64 dk, .int .u64 (da : Int), .bool dr, .bool dq, .bool dx, .int .i64 df] 62)).alloc (.cells #[.int .i64 dk, .int .u64 (da : Int), .bool dr, .bool dq, .bool dx, .int .i64 df] 62) := ⟨_, rfl⟩
      have k4 : Kp w2 v4 := by rw [hv4]; exact ((Kp.refl w2).alloc _).alloc _
      have C4 : v4.heap[w2.heap.size + 1]? = some (.cells #[.int .i64 dk, .int .u64 (da : Int), .bool dr, .bool dq, .bool dx, .int .i64 df] 62) := by
        rw [hv4]
        have := heap_alloc_new (w2.alloc (.cells #[.int .i64 dk, .int .u64 (da : Int), .bool dr, .bool dq, .bool dx, .int .i64 df] 62)) (.cells #[.int .i64 dk, .int .u64 (da : Int), .bool dr, .bool dq, .bool dx, .int .i64 df] 62)
        simpa using this
      obtain ⟨v', r1, u1, f1⟩ := (HI.out.1.kp (K2.trans k4)).snoc (by simp; omega) ⟨dk, da, dr, dq, dx, df⟩ (w2.heap.size + 1) (fun j y hy => by rw [cell_of_row _ _ j _ _ _ C4]; simpa [encD] using hy)
      rw [List.length_map, List.length_range, hv4] at r1
      have H2 : Hid (WD v' w.heap.size ((List.range (k + 1)).map fun i => dvN 2 l (M x i)) ∧ WU v' bw ((List.range 512).map (M x)) ∧ Kp w v') := ⟨by rw [List.range_succ, List.map_append, List.map_singleton, HM.out, ← HDd.out]; exact u1, OL.fr (HI.out.2.1.kp (K2.trans k4)) f1 (fun g hg c => HN.out ((Option.some.inj hg).trans c)), f1.kp (HI.out.2.2.trans (K2.trans k4)) (fun i c => by omega)⟩
      clear HI u1 f1 K2 k4 C4 hv4 kd HDd cu
      repeat' (first | ((with_reducible refine wp_append_of r1 (.tmp 27) (.tmp 29) ?_ ?_ ?_ ?_ ?_); rfl; rfl; rfl; rfl) | go_values | go_skip | go_guarded | go_step | go_upon | go_back | (simp only []) | (go_values <;> (try go_simp)) | (go_ite <;> go_prune <;> (try go_simp)))
      go_roundg (513 - (k + 1))
      case measure => omega
      case rel => exact ⟨k + 1, by go_num, rfl, by omega, by omega, H2⟩
    · have ei : k = 512 := by omega
      subst ei
      go_wp2
      go_ret
      exact ⟨⟨rfl, HI.out.1⟩, HI.out.2.2⟩
end
end Go.Proofs.YtcankhnnikhblaaGreatDoor

/- stage2: whether a table is empty. -/
namespace Go.Proofs.YtcankhnnikhblaaGreatDoor
open Go.RowKit
set_option maxRecDepth 10000

set_option maxHeartbeats 4000000 in
theorem isE_one (b l u : Nat) (w : World) (hb : w.cell? ⟨b, 0, none⟩ = some (.int .i64 (l : Int))) (hu : u < 18446744073709551616) (he : decE 2 (l : Int) u = 0) :
    Calls Tryz.prog 127 #[.int .u64 (u : Int), .pointer (some ⟨b, 0, none⟩)] w fun e w' => e = .returned (.bool ((dvN 2 l u).k != 0)) ∧ Kp w w' := by
  have kd := decode_dv 2 l u w hu
  rw [he] at kd
  generalize dvN 2 l u = d at *
  obtain ⟨dk, da, dr, dq, dx, df⟩ := d
  simp only at *
  clear he hu
  go_enter Tryz.func127, Tryz.ntmps127
  go_wp2_with fail
  with_reducible refine kd.mono ?_
  rintro e w1 ⟨rfl, K1⟩
  clear kd
  go_wp2
  go_ret
  exact ⟨rfl, K1.alloc _⟩
set_option maxHeartbeats 4000000 in
theorem idxE_any (b0 b l : Nat) (g : Nat → Nat) (w : World) (hU : WU w b0 ((List.range 512).map g)) (hb : w.cell? ⟨b, 0, none⟩ = some (.int .i64 (l : Int))) (hbl : b < w.heap.size) (hu : ∀ i, i < 512 → g i < 18446744073709551616 ∧ decE 2 (l : Int) (g i) = 0) :
    Calls Tryz.prog 140 #[.slice (some ⟨b0, 0, none⟩) 512 512, .func (.func 127) #[] #[.pointer (some ⟨b, 0, none⟩)]] w fun e w' => (∃ r : Int, e = .returned (.int .i64 r) ∧ ((r = -1 ∧ ∀ i, i < 512 → (dvN 2 l (g i)).k = 0) ∨ (0 ≤ r ∧ ∃ i, i < 512 ∧ (dvN 2 l (g i)).k ≠ 0))) ∧ Kp w w' := by
  have HH : Hid (WU w b0 ((List.range 512).map g) ∧ w.cell? ⟨b, 0, none⟩ = some (.int .i64 (l : Int)) ∧ b < w.heap.size ∧ ∀ i, i < 512 → g i < 18446744073709551616 ∧ decE 2 (l : Int) (g i) = 0) := ⟨hU, hb, hbl, hu⟩
  clear hU hb hbl hu
  go_enter Tryz.func140, Tryz.ntmps140
  go_wp2_with fail
  go_loopg [8] 513 (fun gg v8 wr => ∃ k : Nat, v8 = .int .i64 (k : Int) ∧ k ≤ 512 ∧ 513 - k ≤ gg ∧ Hid (Kp w wr ∧ ∀ i, i < k → (dvN 2 l (g i)).k = 0))
  case atStart => exact ⟨0, rfl, by omega, by omega, Kp.refl w, fun i hi => by omega⟩
  case round =>
    obtain ⟨k, rfl, hk, hg, HI⟩ := hrel
    by_cases e : k < 512
    · have cu := (HH.out.1.kp HI.out.1).cell (i := k) (x := g k) (by rw [List.getElem?_map, List.getElem?_range e]; rfl)
      have kc := isE_one b l (g k) wr (by rw [Kp.cell HI.out.1 (p := ⟨b, 0, none⟩) HH.out.2.2.1]; exact HH.out.2.1) (HH.out.2.2.2 k e).1 (HH.out.2.2.2 k e).2
      have z1 : (k : Int) < 512 := by omega
      have z2 : (0 : Int) ≤ k := by omega
      obtain ⟨dk, hdk⟩ : ∃ dk, dk = (dvN 2 l (g k)).k := ⟨_, rfl⟩
      rw [← hdk] at kc
      have HD : Hid (dk = (dvN 2 l (g k)).k) := hdk
      clear hdk
      generalize g k = u at cu kc
      by_cases c : dk = 0
      · subst c
        rw [show ((0 : Int) != 0) = false from rfl] at kc
        go_wp2_with fail
        with_reducible refine kc.mono ?_
        rintro _ w1 ⟨rfl, K1⟩
        have H2 : Hid (Kp w w1 ∧ ∀ i, i < k + 1 → (dvN 2 l (g i)).k = 0) := ⟨HI.out.1.trans K1, fun i hi => by
          by_cases c : i < k
          · exact HI.out.2 i c
          · rw [show i = k by omega]; exact HD.out.symm⟩
        clear K1 HI kc cu HD
        go_wp2_with fail
        go_roundg (513 - (k + 1))
        case measure => omega
        case rel => exact ⟨k + 1, by go_num, by omega, by omega, H2⟩
      · rw [show (dk != 0) = true from bne_iff_ne.2 c] at kc
        go_wp2_with fail
        with_reducible refine kc.mono ?_
        rintro _ w1 ⟨rfl, K1⟩
        have H2 : Hid (Kp w w1 ∧ ∃ i, i < 512 ∧ (dvN 2 l (g i)).k ≠ 0) := ⟨HI.out.1.trans K1, k, e, by rw [← HD.out]; exact c⟩
        clear K1 HI kc cu HD
        go_wp2
        go_ret
        exact ⟨⟨(k : Int), rfl, .inr ⟨z2, H2.out.2⟩⟩, H2.out.1⟩
    · have ei : k = 512 := by omega
      subst ei
      go_wp2
      go_ret
      exact ⟨⟨-1, rfl, .inl ⟨rfl, HI.out.2⟩⟩, HI.out.1⟩
set_option maxHeartbeats 4000000 in
theorem hasE_any (b0 b l : Nat) (g : Nat → Nat) (w : World) (hU : WU w b0 ((List.range 512).map g)) (hb : w.cell? ⟨b, 0, none⟩ = some (.int .i64 (l : Int))) (hbl : b < w.heap.size) (hu : ∀ i, i < 512 → g i < 18446744073709551616 ∧ decE 2 (l : Int) (g i) = 0) (em : Bool) (hem : em = false ↔ ∀ i, i < 512 → (dvN 2 l (g i)).k = 0) :
    Calls Tryz.prog 126 #[.slice (some ⟨b0, 0, none⟩) 512 512, .func (.func 127) #[] #[.pointer (some ⟨b, 0, none⟩)]] w fun e w' => e = .returned (.bool em) ∧ Kp w w' := by
  have k1 := (idxE_any b0 b l g w hU hb hbl hu).mono (fun e w' (hh : _ ∧ _) => (⟨by
    obtain ⟨r, e1, e2⟩ := hh.1
    refine ⟨r, e1, ?_⟩
    show Hid (decide (0 ≤ r) = em)
    show decide (0 ≤ r) = em
    rcases e2 with ⟨e2, e3⟩ | ⟨e2, i, hi, e3⟩
    · rw [hem.2 e3, e2]; decide
    · cases em
      · exact absurd (hem.1 rfl i hi) e3
      · exact decide_eq_true e2, hh.2⟩ : (∃ r : Int, e = .returned (.int .i64 r) ∧ Hid (decide (0 ≤ r) = em)) ∧ Kp w w'))
  clear hU hb hbl hu hem
  go_enter Tryz.func126, Tryz.ntmps126
  go_wp2_with fail
  with_reducible refine k1.mono ?_
  rintro e w1 ⟨⟨r, rfl, HR⟩, K1⟩
  clear k1
  go_wp2
  go_ret
  exact ⟨by rw [← HR.out]; rfl, K1⟩
section
variable {W w w' : World} {X Y : Nat → Prop} {bt p pm N pool o : Nat} {M : Nat → Nat → Nat} {C : Nat → Nat} {Z : Nat → Bool} {root : Nat} {E : Nat → Nat → DV}
theorem TG.words (h : TG M C pool Z root E) {l j x : Nat} (hl : l ≤ 3) (hx : tbl root E l j = some x) {i : Nat} (hi : i < 512) : M x i = wdD (E l (512 * j + i)) ∧ dvN 2 l (M x i) = E l (512 * j + i) ∧ decE 2 (l : Int) (M x i) = 0 ∧ M x i < 18446744073709551616 := by
  have h1 := h.wd l j x i hl hx hi
  have h2 := (h.ok l (512 * j + i) hl).back
  rw [h1]
  exact ⟨rfl, h2⟩
set_option maxHeartbeats 4000000 in
theorem isEmpty_any (h : TS W X w bt p pm N pool o M C Z root E) {l j x : Nat} (hl : l ≤ 3) (hx : tbl root E l j = some x) (em : Bool) (hem : em = true ↔ ∀ i, i < 512 → (E l (512 * j + i)).k = 0) :
    Calls Tryz.prog 106 #[.pointer (some ⟨bt, 0, none⟩), .int .u64 ((x * 4096 : Nat) : Int), .int .i64 (l : Int)] w fun e w' => e = .returned (.bool em) ∧ Kp w w' := by
  have hn := h.fw.nums
  have hp := (h.tg.mine l j x hl hx).1
  have kb : Kp w (w.alloc (.cells #[.int .i64 (l : Int)] 3)) := (Kp.refl w).alloc _
  have kw := words_any (h.ft.kps kb) x (by omega)
  have cb : (w.alloc (.cells #[.int .i64 (l : Int)] 3)).cell? ⟨w.heap.size, 0, none⟩ = some (.int .i64 (l : Int)) := by rw [cell_of_row _ _ 0 _ _ _ (heap_alloc_new w _)]; rfl
  have KH : Aside (∀ b0 v, Kp (w.alloc (.cells #[.int .i64 (l : Int)] 3)) v → WU v b0 ((List.range 512).map (M x)) → Calls Tryz.prog 126 #[.slice (some ⟨b0, 0, none⟩) 512 512, .func (.func 127) #[] #[.pointer (some ⟨w.heap.size, 0, none⟩)]] v fun e w' => e = .returned (.bool (!em)) ∧ Kp v w') := fun b0 v kv hU => by
    refine hasE_any b0 w.heap.size l (M x) v hU (by rw [Kp.cell kv (p := ⟨w.heap.size, 0, none⟩) (by simp)]; exact cb) (by have := kv.size; simp at this; omega) (fun i hi => ⟨(h.tg.words hl hx hi).2.2.2, (h.tg.words hl hx hi).2.2.1⟩) (!em) ?_
    have : (!em) = false ↔ em = true := by cases em <;> simp
    rw [this, hem]
    exact ⟨fun a i hi => by rw [(h.tg.words hl hx hi).2.1]; exact a i hi, fun a i hi => by have := a i hi; rw [(h.tg.words hl hx hi).2.1] at this; exact this⟩
  have hmf : ∀ (fn : Fn) (first cap : Array Value) (w : World), (Instr.makeFunc fn first cap).run Tryz.prog w = .ok (.func fn first cap) w := fun _ _ _ _ => rfl
  have HK : Hid (Kp w (w.alloc (.cells #[.int .i64 (l : Int)] 3))) := kb
  clear h hn hp hl hx hem kb cb
  generalize x * 4096 = a at *
  go_enter Tryz.func106, Tryz.ntmps106
  go_wp2_with fail
  with_reducible refine kw.mono ?_
  rintro e w1 ⟨⟨b0, rfl, U1, _⟩, K1⟩
  have kh := KH.out b0 w1 K1 U1
  have HK1 : Hid (Kp w w1) := HK.out.trans K1
  clear kw KH HK K1 U1
  go_wp2_with fail
  with_reducible refine kh.mono ?_
  rintro e w2 ⟨rfl, K2⟩
  clear kh
  cases em
  · go_wp2
    go_ret
    exact ⟨rfl, HK1.out.trans K2⟩
  · go_wp2
    go_ret
    exact ⟨rfl, HK1.out.trans K2⟩
end
end Go.Proofs.YtcankhnnikhblaaGreatDoor
