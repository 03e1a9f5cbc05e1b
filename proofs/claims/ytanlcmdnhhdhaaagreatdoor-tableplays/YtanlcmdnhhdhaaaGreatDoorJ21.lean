/- Joined: R9, R10, R11, R12. -/
import Derived.Test.YtanlcmdnhhdhaaaGreatDoorJ20
import Derived.Test.YtanlcmdnhhdhaaaGreatDoorJ18
/- stage2: a table's words. -/
namespace Go.Proofs.YtanlcmdnhhdhaaaGreatDoor
open Go.RowKit
set_option maxRecDepth 10000

def encU8 (u : Nat) : List Value := [.int .u64 (u : Int)]
theorem encU8_ok : Enc encU8 1 where
  len _ := rfl
  one s u h := by
    simp only [encU8, List.mem_cons, List.not_mem_nil, or_false] at h
    subst h; rfl
  pos := by decide
/-- The words lie in the block b. -/
def WU (w : World) (b : Nat) (L : List Nat) : Prop := OL encU8 37 1 w (.slice (some ⟨b, 0, none⟩) L.length 512) L
def rowU : Obj := .cells (madeCells #[.int .u64 0] 512) 37
theorem make_w512 (w : World) : (Instr.makeSlice 100 (.int .i64 0) (.int .i64 512)).run Tryz.prog w = .ok (.slice (some ⟨w.heap.size, 0, none⟩) 0 512) (w.alloc rowU) := by
  obtain ⟨i, hi, hz, hsz, hb⟩ : ∃ i : TypeInfo, Tryz.prog.info? 37 = some i ∧ i.zero = some (.int .u64 0) ∧ i.size = 1 ∧ i.bytes ≤ 1000 := ⟨_, rfl, rfl, rfl, by decide⟩
  have hr := run_make (P := Tryz.prog) w 100 37 i _ Tryz.underlying100 hi hz .i64 .i64 0 512 (by decide) (by decide) (by omega) (by decide)
  rw [hsz] at hr
  exact hr
section
variable {w w' : World} {b : Nat} {L : List Nat}
theorem WU.made (w : World) : WU (w.alloc rowU) w.heap.size [] := World.ownsRow_made w _ 512 (Nat.zero_le _) (by unfold maxLen; decide) (size_madeCells _ _)
theorem WU.kp (h : WU w b L) (k : Kp w w') : WU w' b L := OL.fr h (k.fr (fun _ => False)) (fun _ _ => id)
theorem WU.lt (h : WU w b L) : b < w.heap.size := by
  obtain ⟨na, cap, e, _, h2⟩ := OL.form h
  cases e
  rcases h2 with ⟨h3, _⟩ | ⟨g, h3, h4⟩
  · cases h3
  · cases h3; exact h4
theorem WU.cell (h : WU w b L) {i x : Nat} (hi : L[i]? = some x) : w.cell? ⟨b, i, none⟩ = some (.int .u64 (x : Int)) := by
  have := OL.cell encU8_ok h (j := 0) hi rfl
  simpa using this
theorem WU.snoc (h : WU w b L) (hL : L.length < 512) (x : Nat) : ∃ v', (Builtin.append_ #[100, 100] 100 #[.slice (some ⟨b, 0, none⟩) L.length 512, .slice (some ⟨w.heap.size, 0, none⟩) 1 1]).run Tryz.prog (w.alloc (.cells #[.int .u64 (x : Int)] 37)) = .ok (.slice (some ⟨b, 0, none⟩) (L.length + 1) 512) v' ∧ WU v' b (L ++ [x]) ∧ Fr (· = b) w v' := by
  obtain ⟨i, hi, hsz⟩ : ∃ i : TypeInfo, Tryz.prog.info? 37 = some i ∧ i.size = 1 := ⟨_, rfl, rfl⟩
  have h' := h.kp ((Kp.refl w).alloc (.cells #[.int .u64 (x : Int)] 37))
  obtain ⟨v', h1, h2, h3⟩ := run_append_fits (P := Tryz.prog) (w.alloc (.cells #[.int .u64 (x : Int)] 37)) 0 100 100 37 i 1 Tryz.underlying100 hi hsz b L.length 512 (L.flatMap encU8) h' ⟨w.heap.size, 0, none⟩ 1 1 (encU8 x) rfl (fun j u hu => by
    rw [add_at, Nat.zero_add, cell_of_row _ _ j _ _ _ (heap_alloc_new w _)]
    simpa [encU8] using hu) (encU8_ok.one x) (by omega)
  refine ⟨v', h1, ?_, (((Kp.refl w).alloc _).fr _).trans (Fr.grown h3 (fun g e => by cases e; rfl))⟩
  unfold WU OL
  rw [List.length_append, List.flatMap_append, List.flatMap_singleton]
  exact h2
end
theorem chk_word8 {k : Nat} (hk : k < 512) : chk ((4096 : Nat) : Int) (8 * k : Nat) (8 : Nat) = 0 := chk_page (by unfold Size; omega) (by omega) (by omega)
section
variable {W w w' : World} {X Y : Nat → Prop} {bt p pm N pool o : Nat} {M : Nat → Nat → Nat} {C : Nat → Nat} {Z : Nat → Bool} {root : Nat} {E : Nat → Nat → DV}
set_option maxHeartbeats 4000000 in
theorem words_any (h : FT W X w bt p pm N pool o M C root) (x : Nat) (hx : x < N) :
    Calls Tryz.prog 118 #[.pointer (some ⟨bt, 0, none⟩), .int .u64 ((x * 4096 : Nat) : Int)] w fun e w' => (∃ b, e = .returned (.slice (some ⟨b, 0, none⟩) 512 512) ∧ WU w' b ((List.range 512).map (M x)) ∧ w.heap.size ≤ b) ∧ Kp w w' := by
  have hn := h.fw.nums
  have c0 := h.tx.c0
  have k1 := wmem_any h.fw
  have k2 := frameOf_any (x * 4096) w (by omega)
  rw [Nat.mul_div_cancel _ (by decide)] at k2
  have k3 := wget_ok h.fw x hx
  have hmk : ∀ w : World, (Instr.makeSlice 100 (.int .i64 0) (.int .i64 512)).run Tryz.prog w = .ok (.slice (some ⟨w.heap.size, 0, none⟩) 0 512) (w.alloc rowU) := make_w512
  clear h hn hx
  generalize x * 4096 = a at *
  go_enter Tryz.func118, Tryz.ntmps118
  go_wp2_with (first | (go_at_call 95; with_reducible refine k1.mono ?_; rintro e w' ⟨rfl, rfl⟩) | (go_at_call 65; with_reducible refine k2.mono ?_; rintro e w' ⟨rfl, rfl⟩))
  with_reducible refine k3.mono ?_
  rintro e w1 ⟨rfl, ⟨f, B1, hf⟩, K1⟩
  have HB : Hid (BS w1 w'.heap.size 0 4096 f ∧ (∀ i, i < 512 → numb f (8 * i) 8 = M x i) ∧ Kp w' w1) := ⟨B1, hf, K1⟩
  clear k1 k2 k3 B1 hf K1 c0
  go_wp2_with fail
  go_loopg [7, 8] 513 (fun g v7 v8 wr => ∃ k : Nat, v8 = .int .i64 ((8 * k : Nat) : Int) ∧ v7 = .slice (some ⟨w1.heap.size, 0, none⟩) k 512 ∧ k ≤ 512 ∧ 513 - k ≤ g ∧ Hid (WU wr w1.heap.size ((List.range k).map (M x)) ∧ Kp w1 wr))
  case atStart => exact ⟨0, rfl, rfl, by omega, by omega, WU.made _, (Kp.refl _).alloc _⟩
  case round =>
    obtain ⟨k, rfl, rfl, hk, hg, HI⟩ := hrel
    by_cases e : k < 512
    · have kg := get_some w'.heap.size 4096 4096 (8 * k) 8 f wr (HB.out.1.kp HI.out.2) (by omega) (by omega) (by omega) (by omega) (by omega) (chk_word8 e)
      rw [HB.out.2.1 k e, show ((8 : Nat) : Int) = 8 from rfl] at kg
      obtain ⟨v', r1, u1, f1⟩ := HI.out.1.snoc (by simp; omega) (M x k)
      rw [List.length_map, List.length_range] at r1
      have H2 : Hid (WU v' w1.heap.size ((List.range (k + 1)).map (M x)) ∧ Kp w1 v') := ⟨by rw [List.range_succ, List.map_append]; exact u1, f1.kp HI.out.2 (fun i c => by omega)⟩
      have z1 : ((8 * k : Nat) : Int) < 4096 := by omega
      have z2 : ((8 * (k + 1) : Nat) : Int) = ((8 * k : Nat) : Int) + 8 := by omega
      clear HI u1 f1
      generalize hm : 8 * k = m at *
      generalize M x k = v at *
      clear hm
      go_wp2_with fail
      with_reducible refine kg.mono ?_
      rintro _ w2 ⟨rfl, rfl⟩
      clear kg
      repeat' (first | ((with_reducible refine wp_append_of r1 (.tmp 35) (.tmp 37) ?_ ?_ ?_ ?_ ?_); rfl; rfl; rfl; rfl) | go_values | go_skip | go_guarded | go_step | go_upon | go_back | (simp only []) | (go_values <;> (try go_simp)) | (go_ite <;> go_prune <;> (try go_simp)))
      go_roundg (513 - (k + 1))
      case measure => omega
      case rel => exact ⟨k + 1, by rw [z2], rfl, by omega, by omega, H2⟩
    · have ei : k = 512 := by omega
      subst ei
      go_wp2
      go_ret
      exact ⟨⟨_, rfl, HI.out.1, HB.out.2.2.size⟩, HB.out.2.2.trans HI.out.2⟩
end
end Go.Proofs.YtanlcmdnhhdhaaaGreatDoor

/- stage2: a table's descriptors. -/
namespace Go.Proofs.YtanlcmdnhhdhaaaGreatDoor
open Go.RowKit
set_option maxRecDepth 10000

def encD (d : DV) : List Value := [.int .i64 d.k, .int .u64 (d.a : Int), .bool d.r, .bool d.q, .bool d.x, .int .i64 d.f]
theorem encD_ok : Enc encD 6 where
  len _ := rfl
  one s u h := by
    simp only [encD, List.mem_cons, List.not_mem_nil, or_false] at h
    rcases h with rfl | rfl | rfl | rfl | rfl | rfl <;> rfl
  pos := by decide
/-- The descriptors lie in the block b. -/
def WD (w : World) (b : Nat) (L : List DV) : Prop := OL encD 62 6 w (.slice (some ⟨b, 0, none⟩) L.length 512) L
def rowD : Obj := .cells (madeCells #[.int .i64 0, .int .u64 0, .bool false, .bool false, .bool false, .int .i64 0] 3072) 62
theorem make_d512 (w : World) : (Instr.makeSlice 169 (.int .i64 0) (.int .i64 512)).run Tryz.prog w = .ok (.slice (some ⟨w.heap.size, 0, none⟩) 0 512) (w.alloc rowD) := by
  obtain ⟨i, hi, hz, hsz, hb⟩ : ∃ i : TypeInfo, Tryz.prog.info? 62 = some i ∧ i.zero = some (.agg #[.int .i64 0, .int .u64 0, .bool false, .bool false, .bool false, .int .i64 0]) ∧ i.size = 6 ∧ i.bytes ≤ 1000 := ⟨_, rfl, rfl, rfl, by decide⟩
  have hr := run_make (P := Tryz.prog) w 169 62 i _ Tryz.underlying169 hi hz .i64 .i64 0 512 (by decide) (by decide) (by omega) (by decide)
  rw [hsz] at hr
  exact hr
section
variable {w w' : World} {b : Nat} {L : List DV}
theorem WD.made (w : World) : WD (w.alloc rowD) w.heap.size [] := World.ownsRow_made w _ 512 (Nat.zero_le _) (by unfold maxLen; decide) (size_madeCells _ _)
theorem WD.kp (h : WD w b L) (k : Kp w w') : WD w' b L := OL.fr h (k.fr (fun _ => False)) (fun _ _ => id)
theorem WD.lt (h : WD w b L) : b < w.heap.size := by
  obtain ⟨na, cap, e, _, h2⟩ := OL.form h
  cases e
  rcases h2 with ⟨h3, _⟩ | ⟨g, h3, h4⟩
  · cases h3
  · cases h3; exact h4
theorem WD.cell (h : WD w b L) {i j : Nat} {x : DV} {y : Value} (hi : L[i]? = some x) (hy : (encD x)[j]? = some y) : w.cell? ⟨b, i * 6 + j, none⟩ = some y := OL.cell encD_ok h hi hy
theorem WD.snoc (h : WD w b L) (hL : L.length < 512) (x : DV) (c : Nat) (hc : ∀ j y, (encD x)[j]? = some y → w.cell? ⟨c, j, none⟩ = some y) : ∃ v', (Builtin.append_ #[169, 169] 169 #[.slice (some ⟨b, 0, none⟩) L.length 512, .slice (some ⟨c, 0, none⟩) 1 1]).run Tryz.prog w = .ok (.slice (some ⟨b, 0, none⟩) (L.length + 1) 512) v' ∧ WD v' b (L ++ [x]) ∧ Fr (· = b) w v' := by
  obtain ⟨i, hi, hsz⟩ : ∃ i : TypeInfo, Tryz.prog.info? 62 = some i ∧ i.size = 6 := ⟨_, rfl, rfl⟩
  obtain ⟨v', h1, h2, h3⟩ := run_append_fits (P := Tryz.prog) w 0 169 169 62 i 6 Tryz.underlying169 hi hsz b L.length 512 (L.flatMap encD) h ⟨c, 0, none⟩ 1 1 (encD x) rfl (fun j u hu => by rw [add_at, Nat.zero_add]; exact hc j u hu) (encD_ok.one x) (by omega)
  refine ⟨v', h1, ?_, Fr.grown h3 (fun g e => by cases e; rfl)⟩
  unfold WD OL
  rw [List.length_append, List.flatMap_append, List.flatMap_singleton]
  exact h2
end
section
variable {W w w' : World} {X Y : Nat → Prop} {bt p pm N pool o : Nat} {M : Nat → Nat → Nat} {C : Nat → Nat} {Z : Nat → Bool} {root : Nat} {E : Nat → Nat → DV}
set_option maxHeartbeats 4000000 in
theorem entries_low (h : FT W X w bt p pm N pool o M C root) (x l : Nat) (hx : x < N) :
    Calls Tryz.prog 110 #[.pointer (some ⟨bt, 0, none⟩), .int .u64 ((x * 4096 : Nat) : Int), .int .i64 (l : Int)] w fun e w' => (e = .returned (.slice (some ⟨w.heap.size, 0, none⟩) 512 512) ∧ WD w' w.heap.size ((List.range 512).map fun i => dvN 2 l (M x i))) ∧ Kp w w' := by
  have hmk : ∀ w : World, (Instr.makeSlice 169 (.int .i64 0) (.int .i64 512)).run Tryz.prog w = .ok (.slice (some ⟨w.heap.size, 0, none⟩) 0 512) (w.alloc rowD) := make_d512
  have kw := words_any (h.kps ((Kp.refl w).alloc rowD)) x hx
  have HW : Hid (∀ i, M x i < 18446744073709551616) := fun i => h.fw.word x i
  clear h hx
  generalize x * 4096 = a at *
  go_enter Tryz.func110, Tryz.ntmps110
  go_wp2_with fail
  with_reducible refine kw.mono ?_
  rintro e w1 ⟨⟨bw, rfl, U1, hbw⟩, K1⟩
  have HN : Hid (bw ≠ w.heap.size) := by have : (w.alloc rowD).heap.size = w.heap.size + 1 := by simp
                                         show bw ≠ w.heap.size; omega
  have HU : Hid (WU w1 bw ((List.range 512).map (M x)) ∧ Kp w w1) := ⟨U1, ((Kp.refl w).alloc _).trans K1⟩
  have HD : Hid (WD w1 w.heap.size ((List.range 0).map fun i => dvN 2 l (M x i))) := (WD.made w).kp K1
  clear kw U1 K1 hbw
  go_wp2_with fail
  go_loopg [7, 17] 513 (fun g v7 v17 wr => ∃ k : Nat, v17 = .int .i64 (k : Int) ∧ v7 = .slice (some ⟨w.heap.size, 0, none⟩) k 512 ∧ k ≤ 512 ∧ 513 - k ≤ g ∧ Hid (WD wr w.heap.size ((List.range k).map fun i => dvN 2 l (M x i)) ∧ WU wr bw ((List.range 512).map (M x)) ∧ Kp w wr))
  case atStart => exact ⟨0, rfl, rfl, by omega, by omega, HD.out, HU.out.1, HU.out.2⟩
  case round =>
    clear HD HU
    obtain ⟨k, rfl, rfl, hk, hg, HI⟩ := hrel
    by_cases e : k < 512
    · have cu := HI.out.2.1.cell (i := k) (x := M x k) (by rw [List.getElem?_map, List.getElem?_range e]; rfl)
      have kd := decode_dv 2 l (M x k) wr (HW.out k)
      obtain ⟨d, hd⟩ : ∃ d, d = dvN 2 l (M x k) := ⟨_, rfl⟩
      rw [← hd] at kd
      have HDd : Hid (d = dvN 2 l (M x k)) := hd
      have z1 : (k : Int) < 512 := by omega
      clear hd
      generalize decE 2 (l : Int) (M x k) = de at *
      generalize hmx : M x k = mx at *
      have HM : Hid (M x k = mx) := hmx
      clear hmx
      obtain ⟨dk, da, dr, dq, dx, df⟩ := d
      simp only at kd
      go_wp2_with fail
      with_reducible refine kd.mono ?_
      rintro _ w2 ⟨rfl, K2⟩
      obtain ⟨v4, hv4⟩ : ∃ v4, v4 = (w2.alloc (.cells #[.int .i64 dk, .int .u64 (da : Int), .bool dr, .bool dq, .bool dx, .int .i64 df] 62)).alloc (.cells #[.int .i64 dk, .int .u64 (da : Int), .bool dr, .bool dq, .bool dx, .int .i64 df] 62) := ⟨_, rfl⟩
      have k4 : Kp w2 v4 := by rw [hv4]; exact ((Kp.refl w2).alloc _).alloc _
      have C4 : v4.heap[w2.heap.size + 1]? = some (.cells #[.int .i64 dk, .int .u64 (da : Int), .bool dr, .bool dq, .bool dx, .int .i64 df] 62) := by
        rw [hv4]
        have := heap_alloc_new (w2.alloc (.cells #[.int .i64 dk, .int .u64 (da : Int), .bool dr, .bool dq, .bool dx, .int .i64 df] 62)) (.cells #[.int .i64 dk, .int .u64 (da : Int), .bool dr, .bool dq, .bool dx, .int .i64 df] 62)
        simpa using this
      obtain ⟨v', r1, u1, f1⟩ := (HI.out.1.kp (K2.trans k4)).snoc (by simp; omega) ⟨dk, da, dr, dq, dx, df⟩ (w2.heap.size + 1) (fun j y hy => by rw [cell_of_row _ _ j _ _ _ C4]; simpa [encD] using hy)
      rw [List.length_map, List.length_range, hv4] at r1
      have H2 : Hid (WD v' w.heap.size ((List.range (k + 1)).map fun i => dvN 2 l (M x i)) ∧ WU v' bw ((List.range 512).map (M x)) ∧ Kp w v') := ⟨by rw [List.range_succ, List.map_append, List.map_singleton, HM.out, ← HDd.out]; exact u1, OL.fr (HI.out.2.1.kp (K2.trans k4)) f1 (fun g hg c => HN.out ((Option.some.inj hg).trans c)), f1.kp (HI.out.2.2.trans (K2.trans k4)) (fun i c => by omega)⟩
      clear HI u1 f1 K2 k4 C4 hv4 kd HDd cu
      repeat' (first | ((with_reducible refine wp_append_of r1 (.tmp 27) (.tmp 29) ?_ ?_ ?_ ?_ ?_); rfl; rfl; rfl; rfl) | go_values | go_skip | go_guarded | go_step | go_upon | go_back | (simp only []) | (go_values <;> (try go_simp)) | (go_ite <;> go_prune <;> (try go_simp)))
      go_roundg (513 - (k + 1))
      case measure => omega
      case rel => exact ⟨k + 1, by go_num, rfl, by omega, by omega, H2⟩
    · have ei : k = 512 := by omega
      subst ei
      go_wp2
      go_ret
      exact ⟨⟨rfl, HI.out.1⟩, HI.out.2.2⟩
end
end Go.Proofs.YtanlcmdnhhdhaaaGreatDoor

/- stage2: whether a table is empty. -/
namespace Go.Proofs.YtanlcmdnhhdhaaaGreatDoor
open Go.RowKit
set_option maxRecDepth 10000

set_option maxHeartbeats 4000000 in
theorem isE_one (b l u : Nat) (w : World) (hb : w.cell? ⟨b, 0, none⟩ = some (.int .i64 (l : Int))) (hu : u < 18446744073709551616) (he : decE 2 (l : Int) u = 0) :
    Calls Tryz.prog 119 #[.int .u64 (u : Int), .pointer (some ⟨b, 0, none⟩)] w fun e w' => e = .returned (.bool ((dvN 2 l u).k != 0)) ∧ Kp w w' := by
  have kd := decode_dv 2 l u w hu
  rw [he] at kd
  generalize dvN 2 l u = d at *
  obtain ⟨dk, da, dr, dq, dx, df⟩ := d
  simp only at *
  clear he hu
  go_enter Tryz.func119, Tryz.ntmps119
  go_wp2_with fail
  with_reducible refine kd.mono ?_
  rintro e w1 ⟨rfl, K1⟩
  clear kd
  go_wp2
  go_ret
  exact ⟨rfl, K1.alloc _⟩
set_option maxHeartbeats 4000000 in
theorem idxE_any (b0 b l : Nat) (g : Nat → Nat) (w : World) (hU : WU w b0 ((List.range 512).map g)) (hb : w.cell? ⟨b, 0, none⟩ = some (.int .i64 (l : Int))) (hbl : b < w.heap.size) (hu : ∀ i, i < 512 → g i < 18446744073709551616 ∧ decE 2 (l : Int) (g i) = 0) :
    Calls Tryz.prog 135 #[.slice (some ⟨b0, 0, none⟩) 512 512, .func (.func 119) #[] #[.pointer (some ⟨b, 0, none⟩)]] w fun e w' => (∃ r : Int, e = .returned (.int .i64 r) ∧ ((r = -1 ∧ ∀ i, i < 512 → (dvN 2 l (g i)).k = 0) ∨ (0 ≤ r ∧ ∃ i, i < 512 ∧ (dvN 2 l (g i)).k ≠ 0))) ∧ Kp w w' := by
  have HH : Hid (WU w b0 ((List.range 512).map g) ∧ w.cell? ⟨b, 0, none⟩ = some (.int .i64 (l : Int)) ∧ b < w.heap.size ∧ ∀ i, i < 512 → g i < 18446744073709551616 ∧ decE 2 (l : Int) (g i) = 0) := ⟨hU, hb, hbl, hu⟩
  clear hU hb hbl hu
  go_enter Tryz.func135, Tryz.ntmps135
  go_wp2_with fail
  go_loopg [8] 513 (fun gg v8 wr => ∃ k : Nat, v8 = .int .i64 (k : Int) ∧ k ≤ 512 ∧ 513 - k ≤ gg ∧ Hid (Kp w wr ∧ ∀ i, i < k → (dvN 2 l (g i)).k = 0))
  case atStart => exact ⟨0, rfl, by omega, by omega, Kp.refl w, fun i hi => by omega⟩
  case round =>
    obtain ⟨k, rfl, hk, hg, HI⟩ := hrel
    by_cases e : k < 512
    · have cu := (HH.out.1.kp HI.out.1).cell (i := k) (x := g k) (by rw [List.getElem?_map, List.getElem?_range e]; rfl)
      have kc := isE_one b l (g k) wr (by rw [Kp.cell HI.out.1 (p := ⟨b, 0, none⟩) HH.out.2.2.1]; exact HH.out.2.1) (HH.out.2.2.2 k e).1 (HH.out.2.2.2 k e).2
      have z1 : (k : Int) < 512 := by omega
      have z2 : (0 : Int) ≤ k := by omega
      obtain ⟨dk, hdk⟩ : ∃ dk, dk = (dvN 2 l (g k)).k := ⟨_, rfl⟩
      rw [← hdk] at kc
      have HD : Hid (dk = (dvN 2 l (g k)).k) := hdk
      clear hdk
      generalize g k = u at cu kc
      by_cases c : dk = 0
      · subst c
        rw [show ((0 : Int) != 0) = false from rfl] at kc
        go_wp2_with fail
        with_reducible refine kc.mono ?_
        rintro _ w1 ⟨rfl, K1⟩
        have H2 : Hid (Kp w w1 ∧ ∀ i, i < k + 1 → (dvN 2 l (g i)).k = 0) := ⟨HI.out.1.trans K1, fun i hi => by
          by_cases c : i < k
          · exact HI.out.2 i c
          · rw [show i = k by omega]; exact HD.out.symm⟩
        clear K1 HI kc cu HD
        go_wp2_with fail
        go_roundg (513 - (k + 1))
        case measure => omega
        case rel => exact ⟨k + 1, by go_num, by omega, by omega, H2⟩
      · rw [show (dk != 0) = true from bne_iff_ne.2 c] at kc
        go_wp2_with fail
        with_reducible refine kc.mono ?_
        rintro _ w1 ⟨rfl, K1⟩
        have H2 : Hid (Kp w w1 ∧ ∃ i, i < 512 ∧ (dvN 2 l (g i)).k ≠ 0) := ⟨HI.out.1.trans K1, k, e, by rw [← HD.out]; exact c⟩
        clear K1 HI kc cu HD
        go_wp2
        go_ret
        exact ⟨⟨(k : Int), rfl, .inr ⟨z2, H2.out.2⟩⟩, H2.out.1⟩
    · have ei : k = 512 := by omega
      subst ei
      go_wp2
      go_ret
      exact ⟨⟨-1, rfl, .inl ⟨rfl, HI.out.2⟩⟩, HI.out.1⟩
set_option maxHeartbeats 4000000 in
theorem hasE_any (b0 b l : Nat) (g : Nat → Nat) (w : World) (hU : WU w b0 ((List.range 512).map g)) (hb : w.cell? ⟨b, 0, none⟩ = some (.int .i64 (l : Int))) (hbl : b < w.heap.size) (hu : ∀ i, i < 512 → g i < 18446744073709551616 ∧ decE 2 (l : Int) (g i) = 0) (em : Bool) (hem : em = false ↔ ∀ i, i < 512 → (dvN 2 l (g i)).k = 0) :
    Calls Tryz.prog 117 #[.slice (some ⟨b0, 0, none⟩) 512 512, .func (.func 119) #[] #[.pointer (some ⟨b, 0, none⟩)]] w fun e w' => e = .returned (.bool em) ∧ Kp w w' := by
  have k1 := (idxE_any b0 b l g w hU hb hbl hu).mono (fun e w' (hh : _ ∧ _) => (⟨by
    obtain ⟨r, e1, e2⟩ := hh.1
    refine ⟨r, e1, ?_⟩
    show Hid (decide (0 ≤ r) = em)
    show decide (0 ≤ r) = em
    rcases e2 with ⟨e2, e3⟩ | ⟨e2, i, hi, e3⟩
    · rw [hem.2 e3, e2]; decide
    · cases em
      · exact absurd (hem.1 rfl i hi) e3
      · exact decide_eq_true e2, hh.2⟩ : (∃ r : Int, e = .returned (.int .i64 r) ∧ Hid (decide (0 ≤ r) = em)) ∧ Kp w w'))
  clear hU hb hbl hu hem
  go_enter Tryz.func117, Tryz.ntmps117
  go_wp2_with fail
  with_reducible refine k1.mono ?_
  rintro e w1 ⟨⟨r, rfl, HR⟩, K1⟩
  clear k1
  go_wp2
  go_ret
  exact ⟨by rw [← HR.out]; rfl, K1⟩
section
variable {W w w' : World} {X Y : Nat → Prop} {bt p pm N pool o : Nat} {M : Nat → Nat → Nat} {C : Nat → Nat} {Z : Nat → Bool} {root : Nat} {E : Nat → Nat → DV}
theorem TG.words (h : TG M C pool Z root E) {l j x : Nat} (hl : l ≤ 3) (hx : tbl root E l j = some x) {i : Nat} (hi : i < 512) : M x i = wdD (E l (512 * j + i)) ∧ dvN 2 l (M x i) = E l (512 * j + i) ∧ decE 2 (l : Int) (M x i) = 0 ∧ M x i < 18446744073709551616 := by
  have h1 := h.wd l j x i hl hx hi
  have h2 := (h.ok l (512 * j + i) hl).back
  rw [h1]
  exact ⟨rfl, h2⟩
set_option maxHeartbeats 4000000 in
theorem isEmpty_any (h : TS W X w bt p pm N pool o M C Z root E) {l j x : Nat} (hl : l ≤ 3) (hx : tbl root E l j = some x) (em : Bool) (hem : em = true ↔ ∀ i, i < 512 → (E l (512 * j + i)).k = 0) :
    Calls Tryz.prog 98 #[.pointer (some ⟨bt, 0, none⟩), .int .u64 ((x * 4096 : Nat) : Int), .int .i64 (l : Int)] w fun e w' => e = .returned (.bool em) ∧ Kp w w' := by
  have hn := h.fw.nums
  have hp := (h.tg.mine l j x hl hx).1
  have kb : Kp w (w.alloc (.cells #[.int .i64 (l : Int)] 3)) := (Kp.refl w).alloc _
  have kw := words_any (h.ft.kps kb) x (by omega)
  have cb : (w.alloc (.cells #[.int .i64 (l : Int)] 3)).cell? ⟨w.heap.size, 0, none⟩ = some (.int .i64 (l : Int)) := by rw [cell_of_row _ _ 0 _ _ _ (heap_alloc_new w _)]; rfl
  have KH : Aside (∀ b0 v, Kp (w.alloc (.cells #[.int .i64 (l : Int)] 3)) v → WU v b0 ((List.range 512).map (M x)) → Calls Tryz.prog 117 #[.slice (some ⟨b0, 0, none⟩) 512 512, .func (.func 119) #[] #[.pointer (some ⟨w.heap.size, 0, none⟩)]] v fun e w' => e = .returned (.bool (!em)) ∧ Kp v w') := fun b0 v kv hU => by
    refine hasE_any b0 w.heap.size l (M x) v hU (by rw [Kp.cell kv (p := ⟨w.heap.size, 0, none⟩) (by simp)]; exact cb) (by have := kv.size; simp at this; omega) (fun i hi => ⟨(h.tg.words hl hx hi).2.2.2, (h.tg.words hl hx hi).2.2.1⟩) (!em) ?_
    have : (!em) = false ↔ em = true := by cases em <;> simp
    rw [this, hem]
    exact ⟨fun a i hi => by rw [(h.tg.words hl hx hi).2.1]; exact a i hi, fun a i hi => by have := a i hi; rw [(h.tg.words hl hx hi).2.1] at this; exact this⟩
  have hmf : ∀ (fn : Fn) (first cap : Array Value) (w : World), (Instr.makeFunc fn first cap).run Tryz.prog w = .ok (.func fn first cap) w := fun _ _ _ _ => rfl
  have HK : Hid (Kp w (w.alloc (.cells #[.int .i64 (l : Int)] 3))) := kb
  clear h hn hp hl hx hem kb cb
  generalize x * 4096 = a at *
  go_enter Tryz.func98, Tryz.ntmps98
  go_wp2_with fail
  with_reducible refine kw.mono ?_
  rintro e w1 ⟨⟨b0, rfl, U1, _⟩, K1⟩
  have kh := KH.out b0 w1 K1 U1
  have HK1 : Hid (Kp w w1) := HK.out.trans K1
  clear kw KH HK K1 U1
  go_wp2_with fail
  with_reducible refine kh.mono ?_
  rintro e w2 ⟨rfl, K2⟩
  clear kh
  cases em
  · go_wp2
    go_ret
    exact ⟨rfl, HK1.out.trans K2⟩
  · go_wp2
    go_ret
    exact ⟨rfl, HK1.out.trans K2⟩
end
end Go.Proofs.YtanlcmdnhhdhaaaGreatDoor

/- stage2: leaves alone; what a placing does, apart from any program. -/
namespace Go.Proofs.YtanlcmdnhhdhaaaGreatDoor
open Go.RowKit
set_option maxRecDepth 10000

/-- The leaves of a level: what is no table. -/
def lfD (E : Nat → Nat → DV) : Nat → Nat → DV := fun l j => if (E l j).k = 1 then dN else E l j
/-- Frames of others are as they were. -/
def Ot (Z : Nat → Bool) (M : Nat → Nat → Nat) (C : Nat → Nat) (M' : Nat → Nat → Nat) (C' : Nat → Nat) : Prop := ∀ z, Z z = true → (∀ i, i < 512 → M' z i = M z i) ∧ C' z = C z
theorem Ot.refl (Z : Nat → Bool) (M : Nat → Nat → Nat) (C : Nat → Nat) : Ot Z M C M C := fun _ _ => ⟨fun _ _ => rfl, rfl⟩
theorem Ot.trans {Z : Nat → Bool} {M M' M'' : Nat → Nat → Nat} {C C' C'' : Nat → Nat} (h : Ot Z M C M' C') (k : Ot Z M' C' M'' C'') : Ot Z M C M'' C'' := fun z hz => ⟨fun i hi => ((k z hz).1 i hi).trans ((h z hz).1 i hi), (k z hz).2.trans (h z hz).2⟩
theorem cnt_take {pool y : Nat} {C : Nat → Nat} (hy : y < pool) (hC : C y = 0) : cnt (fT pool (putC C y 1)) pool + 1 = cnt (fT pool C) pool := by
  refine (cnt_on (F := fT pool (putC C y 1)) (G := fT pool C) (x := y) ?_ (fun k => ?_) pool hy).symm
  · unfold fT putC; rw [if_pos rfl]; simp
  · unfold fT putC
    by_cases c : k = y
    · subst c; rw [if_pos rfl]; simp [hy, hC]
    · rw [if_neg c, if_neg c]
theorem cnt_give {pool y : Nat} {C : Nat → Nat} (hy : y < pool) (hC : C y ≠ 0) : cnt (fT pool (putC C y 0)) pool = cnt (fT pool C) pool + 1 := by
  refine cnt_on (F := fT pool C) (G := fT pool (putC C y 0)) (x := y) ?_ (fun k => ?_) pool hy
  · unfold fT; simp [hC]
  · unfold fT putC
    by_cases c : k = y
    · subst c; rw [if_pos rfl, if_pos rfl]; simp [hy]
    · rw [if_neg c, if_neg c]

section
variable {M M' : Nat → Nat → Nat} {C C' : Nat → Nat} {pool root page : Nat} {Z : Nat → Bool} {E E0 : Nat → Nat → DV} {l j : Nat} {d : DV} {ds : Nat → DV}
theorem NE.weak {ex ex' : Nat → Nat → Prop} (h : NE root E ex) (hx : ∀ a b, ex a b → ex' a b) : NE root E ex' := fun a b x h1 h2 h3 h4 => h a b x h1 h2 (fun c => h3 (hx a b c)) h4
/-- What a table of a page's way is empty for: it was made for the next entry. -/
def exP (page l : Nat) : Nat → Nat → Prop := fun a b => a = l ∧ b = qn page l / 512
theorem NE.hang (h : NE root E (fun a b => a = l ∧ b = j / 512)) (hds : ∀ i, i < 512 → (ds i).k ≠ 1) (hE : ∀ i, i < 512 → (E (l + 1) (512 * j + i)).k ≠ 1) (hd : d.k ≠ 0) : NE root (hang E l j d ds) (fun a b => a = l + 1 ∧ b = j) := by
  intro a b x h1 h2 h3 h4
  rw [tbl_hang_out hds hE h3] at h4
  by_cases c : a = l ∧ b = j / 512
  · obtain ⟨rfl, rfl⟩ := c
    refine ⟨j % 512, Nat.mod_lt _ (by decide), ?_⟩
    rw [show 512 * (j / 512) + j % 512 = j by omega, hang_at]
    exact hd
  · obtain ⟨i, hi, hk⟩ := h a b x h1 h2 c h4
    refine ⟨i, hi, ?_⟩
    rw [hang_out]
    · exact hk
    · rintro ⟨rfl, rfl⟩; exact c ⟨rfl, by omega⟩
    · rintro ⟨rfl, e⟩; exact h3 ⟨rfl, by omega⟩
theorem NE.filled (h : NE root E (fun a b => a = l + 1 ∧ b = j)) {i : Nat} (hi : i < 512) (hk : (E (l + 1) (512 * j + i)).k ≠ 0) : NE root E (fun _ _ => False) := by
  intro a b x h1 h2 _ h4
  by_cases c : a = l + 1 ∧ b = j
  · obtain ⟨rfl, rfl⟩ := c; exact ⟨i, hi, hk⟩
  · exact h a b x h1 h2 c h4
theorem NE.leafed (h : NE root E (fun a b => a = l + 1 ∧ b = j)) (hk : (E l j).k ≠ 1) : NE root E (fun _ _ => False) := by
  intro a b x h1 h2 _ h4
  by_cases c : a = l + 1 ∧ b = j
  · obtain ⟨rfl, rfl⟩ := c
    rw [tbl_succ, if_neg hk] at h4
    cases h4
  · exact h a b x h1 h2 c h4
theorem lf_hang (h : TG M C pool Z root E) (hl : l ≤ 2) (hk : (E l j).k = 0) (hd : d.k = 1) (a b : Nat) : lfD (hang E l j d (fun _ => dN)) a b = lfD E a b := by
  have e0 : E l j = dN := (h.ok l j (by omega)).none hk
  unfold lfD
  by_cases c1 : a = l ∧ b = j
  · obtain ⟨rfl, rfl⟩ := c1
    rw [hang_at, if_pos hd, e0]
    rfl
  · by_cases c2 : a = l + 1 ∧ b / 512 = j
    · obtain ⟨rfl, c2⟩ := c2
      have e : b = 512 * j + b % 512 := by omega
      rw [e, hang_in _ _ _ _ _ (Nat.mod_lt _ (by decide)), h.under hl (by rw [hk]; decide) (Nat.mod_lt _ (by decide))]
    · rw [hang_out _ _ _ _ _ c1 c2]
theorem lf_leaf (h : TG M C pool Z root E) (hl : l ≤ 3) (hk : (E l j).k ≠ 1) (hd : d.k ≠ 1) (a b : Nat) (ha : a ≤ 3) : lfD (hang E l j d (fun _ => dN)) a b = if a = l ∧ b = j then d else lfD E a b := by
  unfold lfD
  by_cases c1 : a = l ∧ b = j
  · rw [if_pos c1]
    obtain ⟨rfl, rfl⟩ := c1
    rw [hang_at, if_neg hd]
  · rw [if_neg c1]
    by_cases c2 : a = l + 1 ∧ b / 512 = j
    · obtain ⟨rfl, c2⟩ := c2
      have e : b = 512 * j + b % 512 := by omega
      rw [e, hang_in _ _ _ _ _ (Nat.mod_lt _ (by decide)), h.under (by omega) hk (Nat.mod_lt _ (by decide))]
    · rw [hang_out _ _ _ _ _ c1 c2]
/-- A placing under way: tables have been made down to the level l. -/
structure PL (root : Nat) (E0 E : Nat → Nat → DV) (page l : Nat) : Prop where
  lv : lvG E page = l
  en : (enG E page).k = 0
  lf : ∀ a b, lfD E a b = lfD E0 a b
  ne : NE root E (exP page l)
theorem PL.start (hk : (enG E page).k = 0) (hn : NE root E (fun _ _ => False)) : PL root E E page (lvG E page) := ⟨rfl, hk, fun _ _ => rfl, hn.weak (fun _ _ c => c.elim)⟩
theorem PL.at (h : PL root E0 E page l) : (E l (qn page l)).k = 0 := by have := h.en; unfold enG at this; rw [h.lv] at this; exact this
theorem PL.on (h : PL root E0 E page l) (tg : TG M C pool Z root E) (hl : l ≤ 2) (y : Nat) : PL root E0 (hang E l (qn page l) (dT y) (fun _ => dN)) page (l + 1) := by
  have hk := h.at
  have hu := fun i (hi : i < 512) => tg.under hl (j := qn page l) (by rw [hk]; decide) hi
  have hq : qn page (l + 1) = 512 * qn page l + qn page (l + 1) % 512 := by have := qn_up page hl; omega
  have e1 : hang E l (qn page l) (dT y) (fun _ => dN) (l + 1) (qn page (l + 1)) = dN := by rw [hq, hang_in _ _ _ _ _ (Nat.mod_lt _ (by decide))]
  have lv : lvG (hang E l (qn page l) (dT y) (fun _ => dN)) page = l + 1 := by
    refine lvG_of (by omega) (fun m hm => ?_) (by rw [e1]; decide)
    by_cases c : m = l
    · subst c; rw [hang_at]; rfl
    · rw [hang_out _ _ _ _ _ (by omega) (by omega)]
      exact lvG_on (by rw [h.lv]; omega)
  refine ⟨lv, by unfold enG; rw [lv, e1]; rfl, fun a b => (lf_hang tg hl hk rfl a b).trans (h.lf a b), ?_⟩
  have := NE.hang (l := l) (j := qn page l) (d := dT y) (ds := fun _ => dN) h.ne (fun _ _ => by decide) (fun i hi => by rw [hu i hi]; decide) (by show (1 : Int) ≠ 0; decide)
  refine this.weak fun a b c => ?_
  unfold exP
  rw [qn_up page hl]
  exact c
theorem PL.done (h : PL root E0 E page l) (tg : TG M C pool Z root E) (hl : l ≤ 3) (hd : d.k ≠ 0) (hd1 : d.k ≠ 1) : NE root (hang E l (qn page l) d (fun _ => dN)) (fun _ _ => False) ∧ ∀ a b, a ≤ 3 → lfD (hang E l (qn page l) d (fun _ => dN)) a b = if a = l ∧ b = qn page l then d else lfD E0 a b := by
  have hk := h.at
  have hk1 : (E l (qn page l)).k ≠ 1 := by rw [hk]; decide
  refine ⟨?_, fun a b ha => by rw [lf_leaf tg hl hk1 hd1 a b ha, h.lf a b]⟩
  rcases (by omega : l ≤ 2 ∨ l = 3) with c | c
  · exact (NE.hang (l := l) (j := qn page l) (d := d) (ds := fun _ => dN) h.ne (fun _ _ => by decide) (fun i hi => by rw [tg.under c hk1 hi]; decide) hd).leafed (by rw [hang_at]; exact hd1)
  · subst c
    intro a b x h1 h2 _ h4
    have e : tbl root (hang E 3 (qn page 3) d (fun _ => dN)) a b = tbl root E a b := by
      cases a with
      | zero => rfl
      | succ m => rw [tbl_succ, tbl_succ, hang_out _ _ _ _ _ (by omega) (by omega)]
    rw [e] at h4
    by_cases c : a = 3 ∧ b = qn page 3 / 512
    · obtain ⟨rfl, rfl⟩ := c
      refine ⟨qn page 3 % 512, Nat.mod_lt _ (by decide), ?_⟩
      rw [show 512 * (qn page 3 / 512) + qn page 3 % 512 = qn page 3 by omega, hang_at]
      exact hd
    · obtain ⟨i, hi, hk⟩ := h.ne a b x h1 h2 c h4
      refine ⟨i, hi, ?_⟩
      rw [hang_out]
      · exact hk
      · rintro ⟨rfl, e⟩; exact c ⟨rfl, by omega⟩
      · omega
/-- Where a page lies: in a Page of its own, in a Block, or nowhere. -/
theorem TG.where3 (h : TG M C pool Z root E) (hk : (E 3 page).k ≠ 0) : lvG E page = 3 := by
  have u3 : (E 2 (qn page 2)).k = 1 := by
    obtain ⟨x, hx⟩ := h.up 3 page (by omega) hk
    rw [tbl_succ] at hx
    have e : page / 512 = qn page 2 := rfl
    rw [e] at hx
    by_cases c : (E 2 (qn page 2)).k = 1
    · exact c
    · rw [if_neg c] at hx; cases hx
  have u2 : (E 1 (qn page 1)).k = 1 := by
    obtain ⟨x, hx⟩ := h.up 2 (qn page 2) (by omega) (by rw [u3]; decide)
    rw [qn_up page (by omega), tbl_succ] at hx
    by_cases c : (E 1 (qn page 1)).k = 1
    · exact c
    · rw [if_neg c] at hx; cases hx
  have u1 : (E 0 (qn page 0)).k = 1 := by
    obtain ⟨x, hx⟩ := h.up 1 (qn page 1) (by omega) (by rw [u2]; decide)
    rw [qn_up page (by omega), tbl_succ] at hx
    by_cases c : (E 0 (qn page 0)).k = 1
    · exact c
    · rw [if_neg c] at hx; cases hx
  have h3 := (h.ok 3 page (by omega)).parts.2.2.2.2.2.2.2.1
  refine lvG_of (by omega) (fun m hm => ?_) (by rw [qn_three]; intro c; have := h3 c; omega)
  rcases (by omega : m = 0 ∨ m = 1 ∨ m = 2) with rfl | rfl | rfl
  · exact u1
  · exact u2
  · exact u3
theorem TG.where2 (h : TG M C pool Z root E) (hk : (E 2 (qn page 2)).k ≠ 0) (hk1 : (E 2 (qn page 2)).k ≠ 1) : lvG E page = 2 := by
  have u2 : (E 1 (qn page 1)).k = 1 := by
    obtain ⟨x, hx⟩ := h.up 2 (qn page 2) (by omega) hk
    rw [qn_up page (by omega), tbl_succ] at hx
    by_cases c : (E 1 (qn page 1)).k = 1
    · exact c
    · rw [if_neg c] at hx; cases hx
  have u1 : (E 0 (qn page 0)).k = 1 := by
    obtain ⟨x, hx⟩ := h.up 1 (qn page 1) (by omega) (by rw [u2]; decide)
    rw [qn_up page (by omega), tbl_succ] at hx
    by_cases c : (E 0 (qn page 0)).k = 1
    · exact c
    · rw [if_neg c] at hx; cases hx
  refine lvG_of (by omega) (fun m hm => ?_) hk1
  rcases (by omega : m = 0 ∨ m = 1) with rfl | rfl
  · exact u1
  · exact u2
/-- What a page is mapped by: its leaf. -/
def pgD (E : Nat → Nat → DV) (page : Nat) : DV := if (lfD E 3 page).k ≠ 0 then lfD E 3 page else lfD E 2 (page / 512)
def pgL (E : Nat → Nat → DV) (page : Nat) : Nat := if (lfD E 3 page).k ≠ 0 then 3 else 2
theorem TG.lf3 (h : TG M C pool Z root E) : lfD E 3 page = E 3 page := by
  unfold lfD
  rw [if_neg]
  intro c
  have := (h.ok 3 page (by omega)).parts.2.2.2.2.2.2.2.1 c
  omega
theorem TG.pg (h : TG M C pool Z root E) : ((enG E page).k ≠ 0 ↔ (pgD E page).k ≠ 0) ∧ ((enG E page).k ≠ 0 → enG E page = pgD E page ∧ lvG E page = pgL E page) := by
  have e3 := h.lf3 (page := page)
  by_cases c3 : (E 3 page).k ≠ 0
  · have lv := h.where3 c3
    have en : enG E page = E 3 page := by unfold enG; rw [lv, qn_three]
    unfold pgD pgL
    rw [e3, if_pos c3, if_pos c3, en, lv]
    exact ⟨Iff.rfl, fun _ => ⟨rfl, rfl⟩⟩
  · have q2 : qn page 2 = page / 512 := rfl
    unfold pgD pgL
    rw [e3, if_neg c3, if_neg c3]
    by_cases c2 : (E 2 (page / 512)).k ≠ 0 ∧ (E 2 (page / 512)).k ≠ 1
    · have lv := h.where2 (page := page) (by rw [q2]; exact c2.1) (by rw [q2]; exact c2.2)
      have en : enG E page = E 2 (page / 512) := by unfold enG; rw [lv, q2]
      unfold lfD
      rw [if_neg c2.2, en, lv]
      exact ⟨Iff.rfl, fun _ => ⟨rfl, rfl⟩⟩
    · have z : (enG E page).k = 0 := by
        by_cases c : (enG E page).k = 0
        · exact c
        · exfalso
          have h3 := lvG_le E page
          have last := h.last page
          have pr := (h.ok (lvG E page) (qn page (lvG E page)) h3).parts
          have bl := h.blk (lvG E page) (qn page (lvG E page)) h3
          unfold enG at c last
          rcases (by omega : (E (lvG E page) (qn page (lvG E page))).k = 2 ∨ (E (lvG E page) (qn page (lvG E page))).k = 3) with k | k
          · have e := bl k
            rw [e, q2] at k c last
            exact c2 ⟨c, last⟩
          · have e := pr.2.2.2.2.2.2.2.2.2.1 k
            rw [e, qn_three] at c
            exact c3 c
      have z2 : (lfD E 2 (page / 512)).k = 0 := by
        unfold lfD
        by_cases c : (E 2 (page / 512)).k = 1
        · rw [if_pos c]; rfl
        · rw [if_neg c]
          by_cases c' : (E 2 (page / 512)).k = 0
          · exact c'
          · exact absurd ⟨c', c⟩ c2
      exact ⟨⟨fun c => absurd z c, fun c => absurd z2 c⟩, fun c => absurd z c⟩
end
end Go.Proofs.YtanlcmdnhhdhaaaGreatDoor
