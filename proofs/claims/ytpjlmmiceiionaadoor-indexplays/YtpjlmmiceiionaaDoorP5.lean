/- phys.Mem: Write, Set, Zero. -/
import Derived.Test.YtpjlmmiceiionaaDoorP4
namespace Go.Proofs.YtpjlmmiceiionaaDoor
open Go.RowKit Go.Maps
set_option maxRecDepth 10000

/-- f with the s bytes of h from o on. -/
def layF (f : Nat → Nat) (o s : Nat) (h : Nat → Nat) : Nat → Nat := fun i => if o ≤ i ∧ i < o + s then h (i - o) else f i
theorem layF_byte {f h : Nat → Nat} (hf : Bytes f) (hh : Bytes h) (o s : Nat) : Bytes (layF f o s h) := fun i => by unfold layF; split; exact hh _; exact hf _
theorem bytesOf_lay (f h : Nat → Nat) (n o s : Nat) (hs : o + s ≤ n) : (bytesOf f n).take o ++ bytesOf h s ++ (bytesOf f n).drop (o + s) = bytesOf (layF f o s h) n := by
  apply List.ext_getElem?
  intro i
  by_cases c : i < n
  · rw [bytesOf_get _ _ _ c]
    by_cases c1 : i < o
    · rw [List.append_assoc, List.getElem?_append_left (by simp [bytesOf_len]; omega), List.getElem?_take, if_pos c1, bytesOf_get _ _ _ c]
      unfold layF; rw [if_neg (by omega)]
    · by_cases c2 : i < o + s
      · rw [List.append_assoc, List.getElem?_append_right (by simp [bytesOf_len]; omega), List.getElem?_append_left (by simp [bytesOf_len]; omega)]
        rw [show i - ((bytesOf f n).take o).length = i - o by simp [bytesOf_len]; omega, bytesOf_get _ _ _ (by omega)]
        unfold layF; rw [if_pos ⟨by omega, c2⟩]
      · rw [List.getElem?_append_right (by simp [bytesOf_len]; omega), List.getElem?_drop]
        rw [show o + s + (i - ((bytesOf f n).take o ++ bytesOf h s).length) = i by simp [bytesOf_len]; omega, bytesOf_get _ _ _ c]
        unfold layF; rw [if_neg (by omega)]
  · rw [List.getElem?_eq_none (by simp [bytesOf_len]; omega), List.getElem?_eq_none (by simp [bytesOf_len]; omega)]

theorem page_array : Tryd.prog.underlying 88 = some (.array (Tryd.prog.arrayLen 88) (Tryd.prog.elem 88)) := by kernel_rfl
theorem page_len : Tryd.prog.arrayLen 88 = 4096 := by kernel_rfl
theorem page_elem : Tryd.prog.elem 88 = 5 := by kernel_rfl
theorem slice_lh (w : World) (b l s : Nat) (h : l + s ≤ 4096) (hs : 1 ≤ s) : (Instr.sliceAt 88 (.pointer (some ⟨b, 0, none⟩)) (some (.int .i64 (l : Int))) (some (.int .i64 ((l : Int) + s))) none).run Tryd.prog w = .ok (.slice (some ⟨b, l, none⟩) s (4096 - l)) w := by
  rw [run_sliceAt_array_lh w _ _ page_array .i64 .i64 _ _ (by omega) (by omega) (by rw [page_len]; omega), page_elem, size_u8, page_len]
  simp only [Result.andThen_ok, slicedAt]
  rw [if_neg (by omega), Nat.mul_one, Int.toNat_natCast, show ((l : Int) + s).toNat = l + s by omega, add_at, Nat.zero_add, Nat.add_sub_cancel_left]
theorem slice_l (w : World) (b l : Nat) (h : l < 4096) : (Instr.sliceAt 88 (.pointer (some ⟨b, 0, none⟩)) (some (.int .i64 (l : Int))) none none).run Tryd.prog w = .ok (.slice (some ⟨b, l, none⟩) (4096 - l) (4096 - l)) w := by
  rw [run_sliceAt_array_l w _ _ page_array .i64 _ (by omega) (by rw [page_len]; omega), page_elem, size_u8, page_len]
  simp only [Result.andThen_ok, slicedAt]
  rw [if_neg (by omega), Nat.mul_one, Int.toNat_natCast, add_at, Nat.zero_add]

/-- copy(page[o:], bytes). -/
theorem copy_page {w : World} {b : Nat} {f : Nat → Nat} (pg : PG w b f) (o s n d dc cap c : Nat) (h : Nat → Nat) (H : Cells w c n s h) (ho : o + s ≤ 4096) (hd : s ≤ d) (ty : TypeId) :
    (Builtin.copy_ #[40, 40] ty #[.slice (some ⟨b, o, none⟩) d dc, .slice (some ⟨c, n, none⟩) s cap]).run Tryd.prog w = .ok (goInt s) (w.setRow b (bytesOf (layF f o s h) 4096).toArray) ∧ PG (w.setRow b (bytesOf (layF f o s h) 4096).toArray) b (layF f o s h) ∧ Fr (· = b) w (w.setRow b (bytesOf (layF f o s h) 4096).toArray) := by
  refine ⟨?_, setRow_heap w b _ _ _ _ pg, ⟨rfl, rfl, rfl, by simp, fun k _ hk => setRow_other w b k _ hk⟩⟩
  have := run_copy_row Tryd.prog w 40 40 ty 5 b o d dc ⟨c, n, none⟩ s cap _ _ (bytesOf h s) Tryd.underlying40 (by kernel_rfl) pg (by rw [bytesOf_len]; exact (Nat.min_eq_left hd).symm) H.news (by simp [bytesOf_len]; omega) (bytesOf_one h s)
  rw [bytesOf_len, List.toList_toArray, bytesOf_lay f h 4096 o s ho] at this
  exact this

theorem putF_lay (f : Nat → Nat) (o s v : Nat) : layF f o s (putF (fun i => f (o + i)) 0 s v) = putF f o s v := by
  funext i
  unfold layF putF
  by_cases c : o ≤ i ∧ i < o + s
  · rw [if_pos c, if_pos (by omega), if_pos c, Nat.sub_zero]
  · rw [if_neg c, if_neg c]

set_option maxHeartbeats 1000000 in
theorem pwrite_no {w : World} {S : Nat → Prop} {p N ops : Nat} {F : Nat → Nat → Nat} (h : PM w S p N ops F) (addr : Nat) (s r v : Int) (ha : addr < 18446744073709551616) (hc : chkP N addr s = r) (hr : r ≠ 0) :
    Calls Tryd.prog 12 #[.pointer (some ⟨p, 0, none⟩), .int .u64 (addr : Int), .int .i64 s, .int .u64 v] w fun e w' => e = .returned (.int .i64 r) ∧ w' = w := by
  obtain ⟨bm, g, h⟩ := h
  have k1 := pcheck_any p N addr s w h.c0 h.n2 ha
  rw [hc] at k1
  have z : (r != 0) = true := by simp [hr]
  clear h hc ha
  go_enter Tryd.func12, Tryd.ntmps12
  go_wp2_with (go_at_call 33; with_reducible refine k1.mono ?_; rintro e w' ⟨rfl, rfl⟩)
  go_ret
  exact ⟨rfl, rfl⟩

/-- What is left of a change: the memory's own, and new blocks. -/
def Less (S S' : Nat → Prop) (w : World) : Prop := ∀ k, S' k → S k ∨ w.heap.size ≤ k

theorem bytesOf_like {f f' : Nat → Nat} {n : Nat} (h : ∀ i, i < n → f' i = f i) : bytesOf f' n = bytesOf f n := by
  unfold bytesOf
  apply List.map_congr_left
  intro i hi
  rw [h i (List.mem_range.1 hi)]
theorem PG.like {w : World} {b : Nat} {f f' : Nat → Nat} (h : PG w b f) (hf : ∀ i, i < 4096 → f' i = f i) : PG w b f' := by unfold PG; rw [bytesOf_like hf]; exact h
theorem PMat.like {w : World} {S : Nat → Prop} {p bm : Nat} {g : Int → Option Nat} {N ops : Nat} {F F' : Nat → Nat → Nat} (h : PMat w S p bm g N ops F) (hF : ∀ x i, i < 4096 → F' x i = F x i) (hb : ∀ x, Bytes (F' x)) : PMat w S p bm g N ops F' :=
  ⟨h.own, h.sp, h.sm, h.ne, h.row, h.map, fun x b hx => by obtain ⟨h1, h2, h3, h4⟩ := h.page x b hx; exact ⟨h1, h2, h3, h4.like (hF _)⟩, h.inj, fun x hx i hi => by rw [hF x i hi]; exact h.none x hx i hi, fun x b hx => by obtain ⟨i, hi, hn⟩ := h.some x b hx; exact ⟨i, hi, by rw [hF _ i hi]; exact hn⟩, h.n1, h.n2, hb⟩

theorem chk_own {s : Nat} (hs : Size s) : chk (s : Int) ((0 : Nat) : Int) s = 0 := by
  rcases hs with rfl | rfl | rfl | rfl <;> decide

/-- A Write's end, from Put on. -/
theorem pwrite_tail {w wA w1 : World} {S : Nat → Prop} {p N ops b gn cap fr at0 s v : Nat} {F : Nat → Nat → Nat} {g : Int → Option Nat} {bm : Nat} {f : Nat → Nat} (h : PMat w S p bm g N ops F) (kA : Kp w wA) (pg : PG wA b f) (hfb : Bytes f) (hf : ∀ i, i < 4096 → f i = F fr i) (hb : g fr = some b ∨ w.heap.size ≤ b)
    (hfr : fr < N) (ho : at0 + s ≤ 4096) (O1 : OP w1 wA.heap.size gn s cap (putF (fun i => f (at0 + i)) 0 s v)) (K1 : Kp wA w1) :
    ∃ w2, (∀ ty, (Builtin.copy_ #[40, 40] ty #[.slice (some ⟨b, at0, none⟩) (4096 - at0) (4096 - at0), .slice (some ⟨gn, 0, none⟩) s cap]).run Tryd.prog w1 = .ok (goInt s) w2) ∧
      Calls Tryd.prog 36 #[.pointer (some ⟨p, 0, none⟩), .int .i64 (fr : Int), .pointer (some ⟨b, 0, none⟩)] w2 fun e w' => e = .returned (.tuple #[]) ∧ ∃ g' S', PMat w' S' p bm g' N ops (putFr F fr (putF (F fr) at0 s v)) ∧ Fr S w w' ∧ Less S S' w := by
  have pg1 : PG w1 b f := pg.fr (K1.fr (fun _ => False)) id
  have cp := copy_page pg1 at0 s 0 (4096 - at0) (4096 - at0) cap gn _ O1.bs.cells ho (by omega)
  rw [putF_lay f at0 s v] at cp
  obtain ⟨_, pg2, k2⟩ := cp 0
  refine ⟨w1.setRow b (bytesOf (putF f at0 s v) 4096).toArray, fun ty => (cp ty).1, ?_⟩
  have kw : Kp w w1 := kA.trans K1
  have hbp : b ≠ p ∧ b ≠ bm := by
    rcases hb with hb | hb
    · exact ⟨(h.page _ _ hb).2.1, (h.page _ _ hb).2.2.1⟩
    · exact ⟨fun e => by have := h.own p h.sp; omega, fun e => by have := h.own bm h.sm; omega⟩
  have k12 : Fr (· = b) w (w1.setRow b (bytesOf (putF f at0 s v) 4096).toArray) := (kw.fr _).trans k2
  have m2 := h.map.fr k12 (fun e => hbp.2 e.symm)
  have c2 : (w1.setRow b (bytesOf (putF f at0 s v) 4096).toArray).cell? ⟨p, 2, none⟩ = some (.map (some bm)) := by
    rw [cell_of_row _ p 2 _ _ _ ((k12.block p (h.own p h.sp) (fun e => hbp.1 e.symm)).trans h.row)]; rfl
  refine (keep_low fr c2 m2 pg2 hfr h.n2).mono fun e w' ⟨he, m3, k3⟩ => ⟨he, ?_⟩
  have hbT : ∀ k, k < w.heap.size → k = b → g fr = some k := fun k hk e => by
    subst e
    rcases hb with hb | hb
    · exact hb
    · omega
  obtain ⟨r1, r2⟩ := h.renew fr hfr b (putF f at0 s v) (putF_byte hfb at0 s v) k12 hbT pg2 hb m3 k3
  refine ⟨_, _, r1.like (fun x i hi => ?_) (fun x => ?_), r2, fun k hk => ?_⟩
  · unfold putFr
    split
    · unfold putF
      split
      · rfl
      · exact (hf i hi).symm
    · rfl
  · unfold putFr
    split
    · exact putF_byte (h.byte fr) _ _ _
    · exact h.byte x
  · rcases hk with hk | rfl
    · exact .inl hk
    · rcases hb with hb | hb
      · exact .inl (h.page _ _ hb).1
      · exact .inr hb

set_option maxHeartbeats 2000000 in
theorem pwrite_ok {w : World} {S : Nat → Prop} {p N ops : Nat} {F : Nat → Nat → Nat} (h : PM w S p N ops F) (addr s v : Nat) (ha : addr < 18446744073709551616) (hc : chkP N addr s = 0) (hv : v < 18446744073709551616) (ho : ops < 4611686018427387904) :
    Calls Tryd.prog 12 #[.pointer (some ⟨p, 0, none⟩), .int .u64 (addr : Int), .int .i64 (s : Int), .int .u64 (v : Int)] w fun e w' => e = .returned (.int .i64 0) ∧ ∃ S', PM w' S' p N (ops + 1) (putFr F (addr / 4096) (putF (F (addr / 4096)) (addr % 4096) s v)) ∧ Fr S w w' ∧ Less S S' w := by
  obtain ⟨bm, g, h⟩ := h
  have k1 := pcheck_any p N addr s w h.c0 h.n2 ha
  rw [hc] at k1
  have k2 := fun w => place_any addr w ha
  obtain ⟨hs, hm, hN⟩ := chkP_zero hc
  obtain ⟨q1, q2⟩ := place_fit hs hm
  have hn2 := h.n2
  have c2 := h.c2
  have hl := h.map.look ((addr / 4096 : Nat) : Int) (WalkArith.wf_i64 (by omega))
  have hs8 : s ≤ 8 ∧ 1 ≤ s := by unfold Size at hs; omega
  have hk := chk_own hs
  have z1 : (s : Int) ≤ 8 := by omega
  have z2 : ((addr % 4096 : Nat) : Int) + s ≤ 4096 := by omega
  have z4 : (ops : Int) < 4611686018427387904 := by omega
  have HH : Aside (PMat w S p bm g N ops F) := h
  have HS : Aside (Size s) := hs
  clear h hc ha hm hs
  generalize addr / 4096 = fr at *
  generalize addr % 4096 = at0 at *
  cases eg : g (fr : Int) with
  | none =>
    simp only [at_, eg, Option.map_none, Option.isSome_none] at hl
    have a1 := alloc_page w (.tuple #[])
    have kA : Kp w (w.alloc (.cells (bytesOf z0 4096).toArray 88)) := (Kp.refl w).alloc _
    have pgA := PG.made w
    have hf : ∀ i, i < 4096 → z0 i = F fr i := fun i hi => (HH.out.none fr eg i hi).symm
    have kput := put_at w.heap.size at0 s (4096 - at0) 0 s v (fun i => z0 (at0 + i)) _ ⟨pgA.lt, fun i hi => by have := (pgA.bs z0_byte).cell (at0 + i) (by omega); rwa [Nat.zero_add] at this, fun i hi => by have := (pgA.bs z0_byte).frz (at0 + i) (by omega); rwa [Nat.zero_add] at this, fun i => z0_byte _⟩ (by omega) hs8.1 (by omega) hv hk
    have tail := fun w1 gn cap O1 K1 => pwrite_tail (w1 := w1) (gn := gn) (cap := cap) (v := v) HH.out kA pgA z0_byte hf (.inr (Nat.le_refl _)) hN q2 O1 K1
    have TL : Aside (∀ w1 gn cap, OP w1 (w.alloc (.cells (bytesOf z0 4096).toArray 88)).heap.size gn s cap (putF (fun i => z0 (at0 + i)) 0 s v) → Kp (w.alloc (.cells (bytesOf z0 4096).toArray 88)) w1 → _) := tail
    have sl1 := slice_lh (w.alloc (.cells (bytesOf z0 4096).toArray 88)) w.heap.size at0 s q2 hs8.2
    have sl2 := fun w1 => slice_l w1 w.heap.size at0 (by omega)
    clear pgA hf kA tail hv ho q1 q2 hk
    rw [show ((0 : Nat) : Int) = 0 from rfl] at kput
    generalize (bytesOf z0 4096).toArray = A at *
    go_enter Tryd.func12, Tryd.ntmps12
    go_wp2_with (first | (go_at_call 33; with_reducible refine k1.mono ?_; rintro e w' ⟨rfl, rfl⟩) | (go_at_call 34; with_reducible refine (k2 _).mono ?_; rintro e w' ⟨rfl, rfl⟩) | (refine wpList_alloc_of 88 a1 rfl rfl ?_))
    with_reducible refine kput.mono ?_
    rintro e w1 ⟨gn, cap', rfl, O1, K1⟩
    obtain ⟨w2, cpy, kk⟩ := TL.out w1 gn cap' O1 K1
    clear kput O1 K1 TL
    go_wp2_with (refine wpList_copy_of cpy _ _ rfl rfl rfl rfl ?_)
    with_reducible refine kk.mono ?_
    rintro e w3 ⟨rfl, g', S', P3, F3, L3⟩
    have c1 := P3.c1
    have f1 := P3.f1
    obtain ⟨P4, F4⟩ := P3.tick
    have E : Hid (∃ S', PM (w3.setCell ⟨p, 1, none⟩ (.int .i64 ((ops : Int) + 1))) S' p N (ops + 1) (putFr F fr (putF (F fr) at0 s v)) ∧ Fr S w' (w3.setCell ⟨p, 1, none⟩ (.int .i64 ((ops : Int) + 1))) ∧ Less S S' w') := ⟨S', ⟨bm, g', P4⟩, F3.trans2 F4 (fun k hk hS => (L3 k hS).resolve_right (Nat.not_le.2 hk)), L3⟩
    clear P3 P4 F3 F4 L3 kk cpy
    go_wp2
    go_ret
    exact ⟨rfl, E.out⟩
  | some b =>
    simp only [at_, eg, Option.map_some, Option.isSome_some] at hl
    have pgA := (HH.out.page _ b eg).2.2.2
    rw [show ((fr : Int)).toNat = fr from rfl] at pgA
    have hfb := HH.out.byte fr
    have kput := put_at b at0 s (4096 - at0) 0 s v (fun i => F fr (at0 + i)) w ⟨pgA.lt, fun i hi => by have := (pgA.bs hfb).cell (at0 + i) (by omega); rwa [Nat.zero_add] at this, fun i hi => by have := (pgA.bs hfb).frz (at0 + i) (by omega); rwa [Nat.zero_add] at this, fun i => hfb _⟩ (by omega) hs8.1 (by omega) hv hk
    have TL : Aside (∀ w1 gn cap, OP w1 w.heap.size gn s cap (putF (fun i => F fr (at0 + i)) 0 s v) → Kp w w1 → _) := fun w1 gn cap O1 K1 => pwrite_tail (w1 := w1) (gn := gn) (cap := cap) (v := v) HH.out (Kp.refl w) pgA hfb (fun _ _ => rfl) (.inl eg) hN q2 O1 K1
    have sl1 := slice_lh w b at0 s q2 hs8.2
    have sl2 := fun w1 => slice_l w1 b at0 (by omega)
    clear pgA hfb hv ho q1 q2 hk
    rw [show ((0 : Nat) : Int) = 0 from rfl] at kput
    go_enter Tryd.func12, Tryd.ntmps12
    go_wp2_with (first | (go_at_call 33; with_reducible refine k1.mono ?_; rintro e w' ⟨rfl, rfl⟩) | (go_at_call 34; with_reducible refine (k2 _).mono ?_; rintro e w' ⟨rfl, rfl⟩))
    with_reducible refine kput.mono ?_
    rintro e w1 ⟨gn, cap', rfl, O1, K1⟩
    obtain ⟨w2, cpy, kk⟩ := TL.out w1 gn cap' O1 K1
    clear kput O1 K1 TL
    go_wp2_with (refine wpList_copy_of cpy _ _ rfl rfl rfl rfl ?_)
    with_reducible refine kk.mono ?_
    rintro e w3 ⟨rfl, g', S', P3, F3, L3⟩
    have c1 := P3.c1
    have f1 := P3.f1
    obtain ⟨P4, F4⟩ := P3.tick
    have E : Hid (∃ S', PM (w3.setCell ⟨p, 1, none⟩ (.int .i64 ((ops : Int) + 1))) S' p N (ops + 1) (putFr F fr (putF (F fr) at0 s v)) ∧ Fr S w' (w3.setCell ⟨p, 1, none⟩ (.int .i64 ((ops : Int) + 1))) ∧ Less S S' w') := ⟨S', ⟨bm, g', P4⟩, F3.trans2 F4 (fun k hk hS => (L3 k hS).resolve_right (Nat.not_le.2 hk)), L3⟩
    clear P3 P4 F3 F4 L3 kk cpy
    go_wp2
    go_ret
    exact ⟨rfl, E.out⟩

end Go.Proofs.YtpjlmmiceiionaaDoor
