/- Joined: P5, P6. -/
import Derived.Test.YtanlcmdnhhdhaaaGreatDoorJ07
import Derived.Laws.MakeOwn
/- phys.Mem: Write, Set, Zero. -/
namespace Go.Proofs.YtanlcmdnhhdhaaaGreatDoor
open Go.RowKit Go.Maps
set_option maxRecDepth 10000

/-- f with the s bytes of h from o on. -/
def layF (f : Nat → Nat) (o s : Nat) (h : Nat → Nat) : Nat → Nat := fun i => if o ≤ i ∧ i < o + s then h (i - o) else f i
theorem layF_byte {f h : Nat → Nat} (hf : Bytes f) (hh : Bytes h) (o s : Nat) : Bytes (layF f o s h) := fun i => by unfold layF; split; exact hh _; exact hf _
theorem bytesOf_lay (f h : Nat → Nat) (n o s : Nat) (hs : o + s ≤ n) : (bytesOf f n).take o ++ bytesOf h s ++ (bytesOf f n).drop (o + s) = bytesOf (layF f o s h) n := by
  apply List.ext_getElem?
  intro i
  by_cases c : i < n
  · rw [bytesOf_get _ _ _ c]
    by_cases c1 : i < o
    · rw [List.append_assoc, List.getElem?_append_left (by simp [bytesOf_len]; omega), List.getElem?_take, if_pos c1, bytesOf_get _ _ _ c]
      unfold layF; rw [if_neg (by omega)]
    · by_cases c2 : i < o + s
      · rw [List.append_assoc, List.getElem?_append_right (by simp [bytesOf_len]; omega), List.getElem?_append_left (by simp [bytesOf_len]; omega)]
        rw [show i - ((bytesOf f n).take o).length = i - o by simp [bytesOf_len]; omega, bytesOf_get _ _ _ (by omega)]
        unfold layF; rw [if_pos ⟨by omega, c2⟩]
      · rw [List.getElem?_append_right (by simp [bytesOf_len]; omega), List.getElem?_drop]
        rw [show o + s + (i - ((bytesOf f n).take o ++ bytesOf h s).length) = i by simp [bytesOf_len]; omega, bytesOf_get _ _ _ c]
        unfold layF; rw [if_neg (by omega)]
  · rw [List.getElem?_eq_none (by simp [bytesOf_len]; omega), List.getElem?_eq_none (by simp [bytesOf_len]; omega)]

theorem page_array : Tryz.prog.underlying 183 = some (.array (Tryz.prog.arrayLen 183) (Tryz.prog.elem 183)) := by kernel_rfl
theorem page_len : Tryz.prog.arrayLen 183 = 4096 := by kernel_rfl
theorem page_elem : Tryz.prog.elem 183 = 5 := by kernel_rfl
theorem slice_lh (w : World) (b l s : Nat) (h : l + s ≤ 4096) (hs : 1 ≤ s) : (Instr.sliceAt 183 (.pointer (some ⟨b, 0, none⟩)) (some (.int .i64 (l : Int))) (some (.int .i64 ((l : Int) + s))) none).run Tryz.prog w = .ok (.slice (some ⟨b, l, none⟩) s (4096 - l)) w := by
  rw [run_sliceAt_array_lh w _ _ page_array .i64 .i64 _ _ (by omega) (by omega) (by rw [page_len]; omega), page_elem, size_u8, page_len]
  simp only [Result.andThen_ok, slicedAt]
  rw [if_neg (by omega), Nat.mul_one, Int.toNat_natCast, show ((l : Int) + s).toNat = l + s by omega, add_at, Nat.zero_add, Nat.add_sub_cancel_left]
theorem slice_l (w : World) (b l : Nat) (h : l < 4096) : (Instr.sliceAt 183 (.pointer (some ⟨b, 0, none⟩)) (some (.int .i64 (l : Int))) none none).run Tryz.prog w = .ok (.slice (some ⟨b, l, none⟩) (4096 - l) (4096 - l)) w := by
  rw [run_sliceAt_array_l w _ _ page_array .i64 _ (by omega) (by rw [page_len]; omega), page_elem, size_u8, page_len]
  simp only [Result.andThen_ok, slicedAt]
  rw [if_neg (by omega), Nat.mul_one, Int.toNat_natCast, add_at, Nat.zero_add]

/-- copy(page[o:], bytes). -/
theorem copy_page {w : World} {b : Nat} {f : Nat → Nat} (pg : PG w b f) (o s n d dc cap c : Nat) (h : Nat → Nat) (H : Cells w c n s h) (ho : o + s ≤ 4096) (hd : s ≤ d) (ty : TypeId) :
    (Builtin.copy_ #[114, 114] ty #[.slice (some ⟨b, o, none⟩) d dc, .slice (some ⟨c, n, none⟩) s cap]).run Tryz.prog w = .ok (goInt s) (w.setRow b (bytesOf (layF f o s h) 4096).toArray) ∧ PG (w.setRow b (bytesOf (layF f o s h) 4096).toArray) b (layF f o s h) ∧ Fr (· = b) w (w.setRow b (bytesOf (layF f o s h) 4096).toArray) := by
  refine ⟨?_, setRow_heap w b _ _ _ _ pg, ⟨rfl, rfl, rfl, by simp, fun k _ hk => setRow_other w b k _ hk⟩⟩
  have := run_copy_row Tryz.prog w 114 114 ty 5 b o d dc ⟨c, n, none⟩ s cap _ _ (bytesOf h s) Tryz.underlying114 (by kernel_rfl) pg (by rw [bytesOf_len]; exact (Nat.min_eq_left hd).symm) H.news (by simp [bytesOf_len]; omega) (bytesOf_one h s)
  rw [bytesOf_len, List.toList_toArray, bytesOf_lay f h 4096 o s ho] at this
  exact this

theorem putF_lay (f : Nat → Nat) (o s v : Nat) : layF f o s (putF (fun i => f (o + i)) 0 s v) = putF f o s v := by
  funext i
  unfold layF putF
  by_cases c : o ≤ i ∧ i < o + s
  · rw [if_pos c, if_pos (by omega), if_pos c, Nat.sub_zero]
  · rw [if_neg c, if_neg c]

set_option maxHeartbeats 1000000 in
theorem pwrite_no {w : World} {S : Nat → Prop} {p N ops : Nat} {F : Nat → Nat → Nat} (h : PM w S p N ops F) (addr : Nat) (s r v : Int) (ha : addr < 18446744073709551616) (hc : chkP N addr s = r) (hr : r ≠ 0) :
    Calls Tryz.prog 107 #[.pointer (some ⟨p, 0, none⟩), .int .u64 (addr : Int), .int .i64 s, .int .u64 v] w fun e w' => e = .returned (.int .i64 r) ∧ w' = w := by
  obtain ⟨bm, g, h⟩ := h
  have k1 := pcheck_any p N addr s w h.c0 h.n2 ha
  rw [hc] at k1
  have z : (r != 0) = true := by simp [hr]
  clear h hc ha
  go_enter Tryz.func107, Tryz.ntmps107
  go_wp2_with (go_at_call 51; with_reducible refine k1.mono ?_; rintro e w' ⟨rfl, rfl⟩)
  go_ret
  exact ⟨rfl, rfl⟩

/-- What is left of a change: the memory's own, and new blocks. -/
def Less (S S' : Nat → Prop) (w : World) : Prop := ∀ k, S' k → S k ∨ w.heap.size ≤ k

theorem bytesOf_like {f f' : Nat → Nat} {n : Nat} (h : ∀ i, i < n → f' i = f i) : bytesOf f' n = bytesOf f n := by
  unfold bytesOf
  apply List.map_congr_left
  intro i hi
  rw [h i (List.mem_range.1 hi)]
theorem PG.like {w : World} {b : Nat} {f f' : Nat → Nat} (h : PG w b f) (hf : ∀ i, i < 4096 → f' i = f i) : PG w b f' := by unfold PG; rw [bytesOf_like hf]; exact h
theorem PMat.like {w : World} {S : Nat → Prop} {p bm : Nat} {g : Int → Option Nat} {N ops : Nat} {F F' : Nat → Nat → Nat} (h : PMat w S p bm g N ops F) (hF : ∀ x i, i < 4096 → F' x i = F x i) (hb : ∀ x, Bytes (F' x)) : PMat w S p bm g N ops F' :=
  ⟨h.own, h.sp, h.sm, h.ne, h.row, h.map, fun x b hx => by obtain ⟨h1, h2, h3, h4⟩ := h.page x b hx; exact ⟨h1, h2, h3, h4.like (hF _)⟩, h.inj, fun x hx i hi => by rw [hF x i hi]; exact h.none x hx i hi, fun x b hx => by obtain ⟨i, hi, hn⟩ := h.some x b hx; exact ⟨i, hi, by rw [hF _ i hi]; exact hn⟩, h.n1, h.n2, hb⟩

theorem chk_own {s : Nat} (hs : Size s) : chk (s : Int) ((0 : Nat) : Int) s = 0 := by
  rcases hs with rfl | rfl | rfl | rfl <;> decide

/-- A Write's end, from Put on. -/
theorem pwrite_tail {w wA w1 : World} {S : Nat → Prop} {p N ops b gn cap fr at0 s v : Nat} {F : Nat → Nat → Nat} {g : Int → Option Nat} {bm : Nat} {f : Nat → Nat} (h : PMat w S p bm g N ops F) (kA : Kp w wA) (pg : PG wA b f) (hfb : Bytes f) (hf : ∀ i, i < 4096 → f i = F fr i) (hb : g fr = some b ∨ w.heap.size ≤ b)
    (hfr : fr < N) (ho : at0 + s ≤ 4096) (O1 : OP w1 wA.heap.size gn s cap (putF (fun i => f (at0 + i)) 0 s v)) (K1 : Kp wA w1) :
    ∃ w2, (∀ ty, (Builtin.copy_ #[114, 114] ty #[.slice (some ⟨b, at0, none⟩) (4096 - at0) (4096 - at0), .slice (some ⟨gn, 0, none⟩) s cap]).run Tryz.prog w1 = .ok (goInt s) w2) ∧
      Calls Tryz.prog 132 #[.pointer (some ⟨p, 0, none⟩), .int .i64 (fr : Int), .pointer (some ⟨b, 0, none⟩)] w2 fun e w' => e = .returned (.tuple #[]) ∧ ∃ g' S', PMat w' S' p bm g' N ops (putFr F fr (putF (F fr) at0 s v)) ∧ Fr S w w' ∧ Less S S' w := by
  have pg1 : PG w1 b f := pg.fr (K1.fr (fun _ => False)) id
  have cp := copy_page pg1 at0 s 0 (4096 - at0) (4096 - at0) cap gn _ O1.bs.cells ho (by omega)
  rw [putF_lay f at0 s v] at cp
  obtain ⟨_, pg2, k2⟩ := cp 0
  refine ⟨w1.setRow b (bytesOf (putF f at0 s v) 4096).toArray, fun ty => (cp ty).1, ?_⟩
  have kw : Kp w w1 := kA.trans K1
  have hbp : b ≠ p ∧ b ≠ bm := by
    rcases hb with hb | hb
    · exact ⟨(h.page _ _ hb).2.1, (h.page _ _ hb).2.2.1⟩
    · exact ⟨fun e => by have := h.own p h.sp; omega, fun e => by have := h.own bm h.sm; omega⟩
  have k12 : Fr (· = b) w (w1.setRow b (bytesOf (putF f at0 s v) 4096).toArray) := (kw.fr _).trans k2
  have m2 := h.map.fr k12 (fun e => hbp.2 e.symm)
  have c2 : (w1.setRow b (bytesOf (putF f at0 s v) 4096).toArray).cell? ⟨p, 2, none⟩ = some (.map (some bm)) := by
    rw [cell_of_row _ p 2 _ _ _ ((k12.block p (h.own p h.sp) (fun e => hbp.1 e.symm)).trans h.row)]; rfl
  refine (keep_low fr c2 m2 pg2 hfr h.n2).mono fun e w' ⟨he, m3, k3⟩ => ⟨he, ?_⟩
  have hbT : ∀ k, k < w.heap.size → k = b → g fr = some k := fun k hk e => by
    subst e
    rcases hb with hb | hb
    · exact hb
    · omega
  obtain ⟨r1, r2⟩ := h.renew fr hfr b (putF f at0 s v) (putF_byte hfb at0 s v) k12 hbT pg2 hb m3 k3
  refine ⟨_, _, r1.like (fun x i hi => ?_) (fun x => ?_), r2, fun k hk => ?_⟩
  · unfold putFr
    split
    · unfold putF
      split
      · rfl
      · exact (hf i hi).symm
    · rfl
  · unfold putFr
    split
    · exact putF_byte (h.byte fr) _ _ _
    · exact h.byte x
  · rcases hk with hk | rfl
    · exact .inl hk
    · rcases hb with hb | hb
      · exact .inl (h.page _ _ hb).1
      · exact .inr hb

set_option maxHeartbeats 2000000 in
theorem pwrite_ok {w : World} {S : Nat → Prop} {p N ops : Nat} {F : Nat → Nat → Nat} (h : PM w S p N ops F) (addr s v : Nat) (ha : addr < 18446744073709551616) (hc : chkP N addr s = 0) (hv : v < 18446744073709551616) (ho : ops < 4611686018427387904) :
    Calls Tryz.prog 107 #[.pointer (some ⟨p, 0, none⟩), .int .u64 (addr : Int), .int .i64 (s : Int), .int .u64 (v : Int)] w fun e w' => e = .returned (.int .i64 0) ∧ ∃ S', PM w' S' p N (ops + 1) (putFr F (addr / 4096) (putF (F (addr / 4096)) (addr % 4096) s v)) ∧ Fr S w w' ∧ Less S S' w := by
  obtain ⟨bm, g, h⟩ := h
  have k1 := pcheck_any p N addr s w h.c0 h.n2 ha
  rw [hc] at k1
  have k2 := fun w => place_any addr w ha
  obtain ⟨hs, hm, hN⟩ := chkP_zero hc
  obtain ⟨q1, q2⟩ := place_fit hs hm
  have hn2 := h.n2
  have c2 := h.c2
  have hl := h.map.look ((addr / 4096 : Nat) : Int) (WalkArith.wf_i64 (by omega))
  have hs8 : s ≤ 8 ∧ 1 ≤ s := by unfold Size at hs; omega
  have hk := chk_own hs
  have z1 : (s : Int) ≤ 8 := by omega
  have z2 : ((addr % 4096 : Nat) : Int) + s ≤ 4096 := by omega
  have z4 : (ops : Int) < 4611686018427387904 := by omega
  have HH : Aside (PMat w S p bm g N ops F) := h
  have HS : Aside (Size s) := hs
  clear h hc ha hm hs
  generalize addr / 4096 = fr at *
  generalize addr % 4096 = at0 at *
  cases eg : g (fr : Int) with
  | none =>
    simp only [at_, eg, Option.map_none, Option.isSome_none] at hl
    have a1 := alloc_page w (.tuple #[])
    have kA : Kp w (w.alloc (.cells (bytesOf z0 4096).toArray 183)) := (Kp.refl w).alloc _
    have pgA := PG.made w
    have hf : ∀ i, i < 4096 → z0 i = F fr i := fun i hi => (HH.out.none fr eg i hi).symm
    have kput := put_at w.heap.size at0 s (4096 - at0) 0 s v (fun i => z0 (at0 + i)) _ ⟨pgA.lt, fun i hi => by have := (pgA.bs z0_byte).cell (at0 + i) (by omega); rwa [Nat.zero_add] at this, fun i hi => by have := (pgA.bs z0_byte).frz (at0 + i) (by omega); rwa [Nat.zero_add] at this, fun i => z0_byte _⟩ (by omega) hs8.1 (by omega) hv hk
    have tail := fun w1 gn cap O1 K1 => pwrite_tail (w1 := w1) (gn := gn) (cap := cap) (v := v) HH.out kA pgA z0_byte hf (.inr (Nat.le_refl _)) hN q2 O1 K1
    have TL : Aside (∀ w1 gn cap, OP w1 (w.alloc (.cells (bytesOf z0 4096).toArray 183)).heap.size gn s cap (putF (fun i => z0 (at0 + i)) 0 s v) → Kp (w.alloc (.cells (bytesOf z0 4096).toArray 183)) w1 → _) := tail
    have sl1 := slice_lh (w.alloc (.cells (bytesOf z0 4096).toArray 183)) w.heap.size at0 s q2 hs8.2
    have sl2 := fun w1 => slice_l w1 w.heap.size at0 (by omega)
    clear pgA hf kA tail hv ho q1 q2 hk
    rw [show ((0 : Nat) : Int) = 0 from rfl] at kput
    generalize (bytesOf z0 4096).toArray = A at *
    go_enter Tryz.func107, Tryz.ntmps107
    go_wp2_with (first | (go_at_call 51; with_reducible refine k1.mono ?_; rintro e w' ⟨rfl, rfl⟩) | (go_at_call 52; with_reducible refine (k2 _).mono ?_; rintro e w' ⟨rfl, rfl⟩) | (refine wpList_alloc_of 183 a1 rfl rfl ?_))
    with_reducible refine kput.mono ?_
    rintro e w1 ⟨gn, cap', rfl, O1, K1⟩
    obtain ⟨w2, cpy, kk⟩ := TL.out w1 gn cap' O1 K1
    clear kput O1 K1 TL
    go_wp2_with (refine wpList_copy_of cpy _ _ rfl rfl rfl rfl ?_)
    with_reducible refine kk.mono ?_
    rintro e w3 ⟨rfl, g', S', P3, F3, L3⟩
    have c1 := P3.c1
    have f1 := P3.f1
    obtain ⟨P4, F4⟩ := P3.tick
    have E : Hid (∃ S', PM (w3.setCell ⟨p, 1, none⟩ (.int .i64 ((ops : Int) + 1))) S' p N (ops + 1) (putFr F fr (putF (F fr) at0 s v)) ∧ Fr S w' (w3.setCell ⟨p, 1, none⟩ (.int .i64 ((ops : Int) + 1))) ∧ Less S S' w') := ⟨S', ⟨bm, g', P4⟩, F3.trans2 F4 (fun k hk hS => (L3 k hS).resolve_right (Nat.not_le.2 hk)), L3⟩
    clear P3 P4 F3 F4 L3 kk cpy
    go_wp2
    go_ret
    exact ⟨rfl, E.out⟩
  | some b =>
    simp only [at_, eg, Option.map_some, Option.isSome_some] at hl
    have pgA := (HH.out.page _ b eg).2.2.2
    rw [show ((fr : Int)).toNat = fr from rfl] at pgA
    have hfb := HH.out.byte fr
    have kput := put_at b at0 s (4096 - at0) 0 s v (fun i => F fr (at0 + i)) w ⟨pgA.lt, fun i hi => by have := (pgA.bs hfb).cell (at0 + i) (by omega); rwa [Nat.zero_add] at this, fun i hi => by have := (pgA.bs hfb).frz (at0 + i) (by omega); rwa [Nat.zero_add] at this, fun i => hfb _⟩ (by omega) hs8.1 (by omega) hv hk
    have TL : Aside (∀ w1 gn cap, OP w1 w.heap.size gn s cap (putF (fun i => F fr (at0 + i)) 0 s v) → Kp w w1 → _) := fun w1 gn cap O1 K1 => pwrite_tail (w1 := w1) (gn := gn) (cap := cap) (v := v) HH.out (Kp.refl w) pgA hfb (fun _ _ => rfl) (.inl eg) hN q2 O1 K1
    have sl1 := slice_lh w b at0 s q2 hs8.2
    have sl2 := fun w1 => slice_l w1 b at0 (by omega)
    clear pgA hfb hv ho q1 q2 hk
    rw [show ((0 : Nat) : Int) = 0 from rfl] at kput
    go_enter Tryz.func107, Tryz.ntmps107
    go_wp2_with (first | (go_at_call 51; with_reducible refine k1.mono ?_; rintro e w' ⟨rfl, rfl⟩) | (go_at_call 52; with_reducible refine (k2 _).mono ?_; rintro e w' ⟨rfl, rfl⟩))
    with_reducible refine kput.mono ?_
    rintro e w1 ⟨gn, cap', rfl, O1, K1⟩
    obtain ⟨w2, cpy, kk⟩ := TL.out w1 gn cap' O1 K1
    clear kput O1 K1 TL
    go_wp2_with (refine wpList_copy_of cpy _ _ rfl rfl rfl rfl ?_)
    with_reducible refine kk.mono ?_
    rintro e w3 ⟨rfl, g', S', P3, F3, L3⟩
    have c1 := P3.c1
    have f1 := P3.f1
    obtain ⟨P4, F4⟩ := P3.tick
    have E : Hid (∃ S', PM (w3.setCell ⟨p, 1, none⟩ (.int .i64 ((ops : Int) + 1))) S' p N (ops + 1) (putFr F fr (putF (F fr) at0 s v)) ∧ Fr S w' (w3.setCell ⟨p, 1, none⟩ (.int .i64 ((ops : Int) + 1))) ∧ Less S S' w') := ⟨S', ⟨bm, g', P4⟩, F3.trans2 F4 (fun k hk hS => (L3 k hS).resolve_right (Nat.not_le.2 hk)), L3⟩
    clear P3 P4 F3 F4 L3 kk cpy
    go_wp2
    go_ret
    exact ⟨rfl, E.out⟩

end Go.Proofs.YtanlcmdnhhdhaaaGreatDoor

/- phys.Mem: Set, Zero, Get, Same. -/
namespace Go.Proofs.YtanlcmdnhhdhaaaGreatDoor
open Go.RowKit Go.Maps
set_option maxRecDepth 10000

theorem slice_all (w : World) (b : Nat) : (Instr.sliceAt 183 (.pointer (some ⟨b, 0, none⟩)) none none none).run Tryz.prog w = .ok (.slice (some ⟨b, 0, none⟩) 4096 4096) w := by
  rw [run_sliceAt_array_all w _ _ page_array, page_elem, size_u8, page_len]
  simp only [Result.andThen_ok, slicedAt]
  rw [if_neg (by omega), Nat.zero_mul, add_at, Nat.zero_add, Nat.sub_zero]

theorem wf_nat {x : Nat} (h : x ≤ 1048576) : (Lit.int .i64 (x : Int)).wf = true := WalkArith.wf_i64 (by omega)

/-! ### Zero -/
set_option maxHeartbeats 1000000 in
theorem pzero_no {w : World} {S : Nat → Prop} {p N ops : Nat} {F : Nat → Nat → Nat} (h : PM w S p N ops F) (x : Int) (hx : hasF N x = false) :
    Calls Tryz.prog 105 #[.pointer (some ⟨p, 0, none⟩), .int .i64 x] w fun e w' => e = .returned (.int .i64 2) ∧ w' = w := by
  obtain ⟨bm, g, h⟩ := h
  have k1 := phas_cell p N x w h.c0
  rw [hx] at k1
  clear h hx
  go_enter Tryz.func105, Tryz.ntmps105
  go_wp2_with (go_at_call 128; with_reducible refine k1.mono ?_; rintro e w' ⟨rfl, rfl⟩)
  go_ret
  exact ⟨rfl, rfl⟩

theorem PMat.drop {w w2 : World} {S : Nat → Prop} {p bm : Nat} {g : Int → Option Nat} {N ops : Nat} {F : Nat → Nat → Nat} (h : PMat w S p bm g N ops F) (x : Nat) (m2 : MP w2 bm N (without g x)) (k : Fr (· = bm) w w2) : PMat w2 S p bm (without g x) N ops (putFr F x z0) ∧ Fr S w w2 := by
  have hk : Fr S w w2 := k.mono (fun i _ e => by rw [e]; exact h.sm)
  have hw : ∀ y c, without g x y = .some c → y ≠ (x : Int) ∧ g y = .some c := fun y c hy => by
    unfold without at hy
    by_cases e : y = (x : Int)
    · rw [if_pos e] at hy; cases hy
    · rw [if_neg e] at hy; exact ⟨e, hy⟩
  have hF : ∀ y c, without g x y = .some c → putFr F x z0 y.toNat = F y.toNat := fun y c hy => by
    obtain ⟨h1, h2⟩ := hw y c hy
    have := h.map.dom y c h2
    exact putFr_other _ _ _ _ (by omega)
  refine ⟨⟨fun i hi => Nat.lt_of_lt_of_le (h.own i hi) k.size, h.sp, h.sm, h.ne, (k.block p (h.own p h.sp) (fun e => h.ne e.symm)).trans h.row, m2, fun y c hy => ?_, fun y z c hy hz => h.inj y z c (hw y c hy).2 (hw z c hz).2, fun y hy i hi => ?_, fun y c hy => ?_, h.n1, h.n2, fun y => ?_⟩, hk⟩
  · obtain ⟨h1, h2, h3, h4⟩ := h.page y c (hw y c hy).2
    exact ⟨h1, h2, h3, by rw [hF y c hy]; exact h4.fr k h3⟩
  · unfold putFr
    by_cases e : y = x
    · rw [if_pos e]; rfl
    · rw [if_neg e]
      refine h.none y ?_ i hi
      unfold without at hy
      rwa [if_neg (by omega)] at hy
  · rw [hF y c hy]
    exact h.some y c (hw y c hy).2
  · unfold putFr
    split
    · exact z0_byte
    · exact h.byte y

set_option maxHeartbeats 1000000 in
theorem pzero_ok {w : World} {S : Nat → Prop} {p N ops : Nat} {F : Nat → Nat → Nat} (h : PM w S p N ops F) (x : Nat) (hx : x < N) :
    Calls Tryz.prog 105 #[.pointer (some ⟨p, 0, none⟩), .int .i64 (x : Int)] w fun e w' => e = .returned (.int .i64 0) ∧ PM w' S p N ops (putFr F x z0) ∧ Fr S w w' := by
  obtain ⟨bm, g, h⟩ := h
  have k1 := phas_cell p N x w h.c0
  rw [(hasF_iff N x).2 (by omega)] at k1
  have c2 := h.c2
  obtain ⟨w2, r1, r2, r3⟩ := h.map.drop (x : Int) (wf_nat (by have := h.n2; omega)) 0
  obtain ⟨q1, q2⟩ := h.drop x r2 r3
  have E : Hid (PM w2 S p N ops (putFr F x z0) ∧ Fr S w w2) := ⟨⟨bm, _, q1⟩, q2⟩
  clear h r2 r3 q1 q2 hx
  go_enter Tryz.func105, Tryz.ntmps105
  go_wp2_with (go_at_call 128; with_reducible refine k1.mono ?_; rintro e w' ⟨rfl, rfl⟩)
  go_ret
  exact ⟨rfl, E.out⟩

/-! ### Get -/
set_option maxHeartbeats 1000000 in
theorem pget_no {w : World} {S : Nat → Prop} {p N ops : Nat} {F : Nat → Nat → Nat} (h : PM w S p N ops F) (x : Int) (hx : hasF N x = false) :
    Calls Tryz.prog 136 #[.pointer (some ⟨p, 0, none⟩), .int .i64 x] w fun e w' => e = .returned (.tuple #[.slice none 0 0, .int .i64 2]) ∧ w' = w := by
  obtain ⟨bm, g, h⟩ := h
  have k1 := phas_cell p N x w h.c0
  rw [hx] at k1
  clear h hx
  go_enter Tryz.func136, Tryz.ntmps136
  go_wp2_with (go_at_call 128; with_reducible refine k1.mono ?_; rintro e w' ⟨rfl, rfl⟩)
  go_ret2
  exact ⟨rfl, rfl⟩

/-- A row of n bytes that is block b. -/
def RB (w : World) (b n : Nat) (f : Nat → Nat) : Prop := w.heap[b]? = some (.cells (bytesOf f n).toArray 5 (0, 0))
theorem RB.lt {w : World} {b n : Nat} {f : Nat → Nat} (h : RB w b n f) : b < w.heap.size := (Array.getElem?_eq_some_iff.1 h).1
theorem RB.bs {w : World} {b n : Nat} {f : Nat → Nat} (h : RB w b n f) (hb : Bytes f) : BS w b 0 n f :=
  ⟨h.lt, fun i hi => by rw [Nat.zero_add, cell_of_row w b i _ _ _ h]; simpa using bytesOf_get f n i hi, fun i _ => frozen_of_row w b _ _ _ h, hb⟩
theorem RB.like {w : World} {b n : Nat} {f f' : Nat → Nat} (h : RB w b n f) (hf : ∀ i, i < n → f' i = f i) : RB w b n f' := by unfold RB; rw [bytesOf_like hf]; exact h
theorem RB.kp {w w' : World} {b n : Nat} {f : Nat → Nat} (h : RB w b n f) (k : Kp w w') : RB w' b n f := (k.block b h.lt).trans h
theorem RB.fr {w w' : World} {b n : Nat} {f : Nat → Nat} (h : RB w b n f) {S : Nat → Prop} (k : Fr S w w') (hS : ¬ S b) : RB w' b n f := (k.block b h.lt hS).trans h

theorem made_bytes (n : Nat) : madeCells #[Value.int .u8 0] n = (bytesOf z0 n).toArray := by
  apply Array.ext_getElem?
  intro i
  by_cases h : i < n
  · simp [madeCells, h, Nat.mod_one, bytesOf, z0]
  · simp [madeCells, h, bytesOf]
theorem make_bytes (n : Nat) (w : World) (hn : n ≤ 1000000) :
    (Instr.makeSlice 114 (.int .i64 (n : Int)) (.int .i64 (n : Int))).run Tryz.prog w = .ok (.slice (some ⟨w.heap.size, 0, none⟩) n n) (w.alloc (.cells (bytesOf z0 n).toArray 5)) := by
  obtain ⟨i0, hi, hz0, hz1, hz2⟩ := info_u8
  have := run_make (P := Tryz.prog) w 114 5 i0 (.int .u8 0) Tryz.underlying114 hi hz0 .i64 .i64 n n (by omega) (by omega) (by rw [hz2]; omega) (by omega)
  rw [hz1, Nat.mul_one] at this
  rw [← made_bytes]
  exact this
theorem make_page (w : World) : (Instr.makeSlice 114 (.int .i64 4096) (.int .i64 4096)).run Tryz.prog w = .ok (.slice (some ⟨w.heap.size, 0, none⟩) 4096 4096) (w.alloc (.cells (bytesOf z0 4096).toArray 5)) := make_bytes 4096 w (by omega)
theorem RB.made (w : World) (n : Nat) : RB (w.alloc (.cells (bytesOf z0 n).toArray 5)) w.heap.size n z0 := heap_alloc_new w _

/-- copy(l, page[:]). -/
theorem copy_out {w : World} {b n : Nat} {f : Nat → Nat} (rb : RB w b n f) (dc cap c o : Nat) (h : Nat → Nat) (H : Cells w c o n h) (ty : TypeId) :
    (Builtin.copy_ #[114, 114] ty #[.slice (some ⟨b, 0, none⟩) n dc, .slice (some ⟨c, o, none⟩) n cap]).run Tryz.prog w = .ok (goInt n) (w.setRow b (bytesOf h n).toArray) := by
  have := run_copy_row Tryz.prog w 114 114 ty 5 b 0 n dc ⟨c, o, none⟩ n cap _ _ (bytesOf h n) Tryz.underlying114 (by kernel_rfl) rb (by rw [bytesOf_len]; exact (Nat.min_self n).symm) H.news (by simp [bytesOf_len]) (bytesOf_one h n)
  rw [bytesOf_len, List.toList_toArray, bytesOf_lay f h n 0 n (by omega)] at this
  rw [this, bytesOf_like (f := h) (f' := layF f 0 n h) (fun i hi => by unfold layF; rw [if_pos (by omega), Nat.sub_zero])]

set_option maxHeartbeats 1000000 in
theorem pget_ok {w : World} {S : Nat → Prop} {p N ops : Nat} {F : Nat → Nat → Nat} (h : PM w S p N ops F) (x : Nat) (hx : x < N) :
    Calls Tryz.prog 136 #[.pointer (some ⟨p, 0, none⟩), .int .i64 (x : Int)] w fun e w' => e = .returned (.tuple #[.slice (some ⟨w.heap.size, 0, none⟩) 4096 4096, .int .i64 0]) ∧ RB w' w.heap.size 4096 (F x) ∧ Kp w w' := by
  obtain ⟨bm, g, h⟩ := h
  have k1 := phas_cell p N x w h.c0
  rw [(hasF_iff N x).2 (by omega)] at k1
  have hmk := make_page w
  have kA : Kp w (w.alloc (.cells (bytesOf z0 4096).toArray 5)) := (Kp.refl w).alloc _
  have rb := RB.made w 4096
  have hA := h.fr (kA.fr (fun _ => False)) (fun _ _ => id)
  have c2 := hA.c2
  have hl := hA.map.look (x : Int) (wf_nat (by have := h.n2; omega))
  cases eg : g (x : Int) with
  | none =>
    simp only [at_, eg, Option.map_none, Option.isSome_none] at hl
    have E : Hid (RB (w.alloc (.cells (bytesOf z0 4096).toArray 5)) w.heap.size 4096 (F x) ∧ Kp w (w.alloc (.cells (bytesOf z0 4096).toArray 5))) := ⟨rb.like (fun i hi => by rw [h.none x eg i hi]; rfl), kA⟩
    clear h hA rb kA hx eg
    generalize (bytesOf z0 4096).toArray = A at *
    go_enter Tryz.func136, Tryz.ntmps136
    go_wp2_with (go_at_call 128; with_reducible refine k1.mono ?_; rintro e w' ⟨rfl, rfl⟩)
    go_ret2
    exact ⟨rfl, E.out⟩
  | some b =>
    simp only [at_, eg, Option.map_some, Option.isSome_some] at hl
    have pg := (hA.page _ b eg).2.2.2
    rw [show ((x : Int)).toNat = x from rfl] at pg
    have cpy := copy_out rb 4096 4096 b 0 (F x) (pg.bs (h.byte x)).cells
    have sl := slice_all (w.alloc (.cells (bytesOf z0 4096).toArray 5)) b
    have E : Hid (RB ((w.alloc (.cells (bytesOf z0 4096).toArray 5)).setRow w.heap.size (bytesOf (F x) 4096).toArray) w.heap.size 4096 (F x) ∧ Kp w ((w.alloc (.cells (bytesOf z0 4096).toArray 5)).setRow w.heap.size (bytesOf (F x) 4096).toArray)) :=
      ⟨setRow_heap _ _ _ _ _ _ rb, ⟨rfl, rfl, rfl, by simp [World.setRow], fun k hk => (setRow_other _ _ k _ (by omega)).trans (kA.block k hk)⟩⟩
    clear h hA rb kA hx eg pg
    generalize (bytesOf z0 4096).toArray = A at *
    generalize (w.alloc (.cells A 5)).setRow w.heap.size (bytesOf (F x) 4096).toArray = w2 at *
    go_enter Tryz.func136, Tryz.ntmps136
    go_wp2_with (first | (go_at_call 128; with_reducible refine k1.mono ?_; rintro e w' ⟨rfl, rfl⟩) | (refine wpList_copy_of cpy _ _ rfl rfl rfl rfl ?_))
    go_ret2
    exact ⟨rfl, E.out⟩

/-! ### Same -/
section
variable {P : Program} {ops : Array Oper} {C : World → Prop} {Q : Act → Prop} {a : Act} {o : Oper} {rest : List Oper}
theorem wpQuiet_load_of {v va : Value} (t : TypeId) (hr : ∀ w, C w → (Instr.loadAt t va).run P w = .ok v w) (x : Operand) (hg : o.guard = none) (ho : o.op = .load t x) (hx : a.eval x = va) (h : wpQuiet P ops C Q rest (a.put o.dst v)) : wpQuiet P ops C Q (o :: rest) a := by
  refine wpQuiet_step fun K hK => ?_
  rw [if_pos (by simp [Region.wanted, hg])]
  refine ⟨v, fun w hw => ?_, hK _ h⟩
  unfold Oper.quietAt execOp
  simp only [ho, hx, Sem.run_bind, hr w hw, Result.andThen_ok, Sem.run_pure]
  exact ⟨rfl, rfl⟩
theorem wpQuiet_eql_of {v vx vy : Value} (t : TypeId) (hr : ∀ w, (binOp .eql t vx vy).run P w = .ok v w) (x y : Operand) (ty : TypeId) (hg : o.guard = none) (ho : o.op = .binOp .eql t x y ty) (hx : a.eval x = vx) (hy : a.eval y = vy) (hq : ∀ w, (eqGuard .eql t x y vx vy).run P w = .ok () w)
    (h : wpQuiet P ops C Q rest (a.put o.dst v)) : wpQuiet P ops C Q (o :: rest) a := by
  refine wpQuiet_step fun K hK => ?_
  rw [if_pos (by simp [Region.wanted, hg])]
  refine ⟨v, fun w _ => ?_, hK _ h⟩
  unfold Oper.quietAt execOp
  simp only [ho, hx, hy, Sem.run_bind, hq w, hr w, Result.andThen_ok, Sem.run_pure]
  exact ⟨rfl, rfl⟩
end

/-- Both frames are there, and alike. -/
def sameF (N : Nat) (F : Nat → Nat → Nat) (x y : Int) : Bool := hasF N x && hasF N y && alike (F x.toNat) (F y.toNat) 4096

end Go.Proofs.YtanlcmdnhhdhaaaGreatDoor
