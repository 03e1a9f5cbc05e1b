/- phys.Mem: Set, Zero, Get, Same. -/
import Derived.Test.YtpjlmmiceiionaaDoorP5
import Derived.Laws.MakeOwn
namespace Go.Proofs.YtpjlmmiceiionaaDoor
open Go.RowKit Go.Maps
set_option maxRecDepth 10000

theorem slice_all (w : World) (b : Nat) : (Instr.sliceAt 88 (.pointer (some ⟨b, 0, none⟩)) none none none).run Tryd.prog w = .ok (.slice (some ⟨b, 0, none⟩) 4096 4096) w := by
  rw [run_sliceAt_array_all w _ _ page_array, page_elem, size_u8, page_len]
  simp only [Result.andThen_ok, slicedAt]
  rw [if_neg (by omega), Nat.zero_mul, add_at, Nat.zero_add, Nat.sub_zero]

theorem wf_nat {x : Nat} (h : x ≤ 1048576) : (Lit.int .i64 (x : Int)).wf = true := WalkArith.wf_i64 (by omega)

theorem PMat.drop {w w2 : World} {S : Nat → Prop} {p bm : Nat} {g : Int → Option Nat} {N ops : Nat} {F : Nat → Nat → Nat} (h : PMat w S p bm g N ops F) (x : Nat) (m2 : MP w2 bm N (without g x)) (k : Fr (· = bm) w w2) : PMat w2 S p bm (without g x) N ops (putFr F x z0) ∧ Fr S w w2 := by
  have hk : Fr S w w2 := k.mono (fun i _ e => by rw [e]; exact h.sm)
  have hw : ∀ y c, without g x y = .some c → y ≠ (x : Int) ∧ g y = .some c := fun y c hy => by
    unfold without at hy
    by_cases e : y = (x : Int)
    · rw [if_pos e] at hy; cases hy
    · rw [if_neg e] at hy; exact ⟨e, hy⟩
  have hF : ∀ y c, without g x y = .some c → putFr F x z0 y.toNat = F y.toNat := fun y c hy => by
    obtain ⟨h1, h2⟩ := hw y c hy
    have := h.map.dom y c h2
    exact putFr_other _ _ _ _ (by omega)
  refine ⟨⟨fun i hi => Nat.lt_of_lt_of_le (h.own i hi) k.size, h.sp, h.sm, h.ne, (k.block p (h.own p h.sp) (fun e => h.ne e.symm)).trans h.row, m2, fun y c hy => ?_, fun y z c hy hz => h.inj y z c (hw y c hy).2 (hw z c hz).2, fun y hy i hi => ?_, fun y c hy => ?_, h.n1, h.n2, fun y => ?_⟩, hk⟩
  · obtain ⟨h1, h2, h3, h4⟩ := h.page y c (hw y c hy).2
    exact ⟨h1, h2, h3, by rw [hF y c hy]; exact h4.fr k h3⟩
  · unfold putFr
    by_cases e : y = x
    · rw [if_pos e]; rfl
    · rw [if_neg e]
      refine h.none y ?_ i hi
      unfold without at hy
      rwa [if_neg (by omega)] at hy
  · rw [hF y c hy]
    exact h.some y c (hw y c hy).2
  · unfold putFr
    split
    · exact z0_byte
    · exact h.byte y

/-! ### Get -/
set_option maxHeartbeats 1000000 in
theorem pget_no {w : World} {S : Nat → Prop} {p N ops : Nat} {F : Nat → Nat → Nat} (h : PM w S p N ops F) (x : Int) (hx : hasF N x = false) :
    Calls Tryd.prog 13 #[.pointer (some ⟨p, 0, none⟩), .int .i64 x] w fun e w' => e = .returned (.tuple #[.slice none 0 0, .int .i64 2]) ∧ w' = w := by
  obtain ⟨bm, g, h⟩ := h
  have k1 := phas_cell p N x w h.c0
  rw [hx] at k1
  clear h hx
  go_enter Tryd.func13, Tryd.ntmps13
  go_wp2_with (go_at_call 37; with_reducible refine k1.mono ?_; rintro e w' ⟨rfl, rfl⟩)
  go_ret2
  exact ⟨rfl, rfl⟩

/-- A row of n bytes that is block b. -/
def RB (w : World) (b n : Nat) (f : Nat → Nat) : Prop := w.heap[b]? = some (.cells (bytesOf f n).toArray 5 (0, 0))
theorem RB.lt {w : World} {b n : Nat} {f : Nat → Nat} (h : RB w b n f) : b < w.heap.size := (Array.getElem?_eq_some_iff.1 h).1
theorem RB.bs {w : World} {b n : Nat} {f : Nat → Nat} (h : RB w b n f) (hb : Bytes f) : BS w b 0 n f :=
  ⟨h.lt, fun i hi => by rw [Nat.zero_add, cell_of_row w b i _ _ _ h]; simpa using bytesOf_get f n i hi, fun i _ => frozen_of_row w b _ _ _ h, hb⟩
theorem RB.like {w : World} {b n : Nat} {f f' : Nat → Nat} (h : RB w b n f) (hf : ∀ i, i < n → f' i = f i) : RB w b n f' := by unfold RB; rw [bytesOf_like hf]; exact h
theorem RB.kp {w w' : World} {b n : Nat} {f : Nat → Nat} (h : RB w b n f) (k : Kp w w') : RB w' b n f := (k.block b h.lt).trans h
theorem RB.fr {w w' : World} {b n : Nat} {f : Nat → Nat} (h : RB w b n f) {S : Nat → Prop} (k : Fr S w w') (hS : ¬ S b) : RB w' b n f := (k.block b h.lt hS).trans h

theorem made_bytes (n : Nat) : madeCells #[Value.int .u8 0] n = (bytesOf z0 n).toArray := by
  apply Array.ext_getElem?
  intro i
  by_cases h : i < n
  · simp [madeCells, h, Nat.mod_one, bytesOf, z0]
  · simp [madeCells, h, bytesOf]
theorem make_bytes (n : Nat) (w : World) (hn : n ≤ 1000000) :
    (Instr.makeSlice 40 (.int .i64 (n : Int)) (.int .i64 (n : Int))).run Tryd.prog w = .ok (.slice (some ⟨w.heap.size, 0, none⟩) n n) (w.alloc (.cells (bytesOf z0 n).toArray 5)) := by
  obtain ⟨i0, hi, hz0, hz1, hz2⟩ := info_u8
  have := run_make (P := Tryd.prog) w 40 5 i0 (.int .u8 0) Tryd.underlying40 hi hz0 .i64 .i64 n n (by omega) (by omega) (by rw [hz2]; omega) (by omega)
  rw [hz1, Nat.mul_one] at this
  rw [← made_bytes]
  exact this
theorem make_page (w : World) : (Instr.makeSlice 40 (.int .i64 4096) (.int .i64 4096)).run Tryd.prog w = .ok (.slice (some ⟨w.heap.size, 0, none⟩) 4096 4096) (w.alloc (.cells (bytesOf z0 4096).toArray 5)) := make_bytes 4096 w (by omega)
theorem RB.made (w : World) (n : Nat) : RB (w.alloc (.cells (bytesOf z0 n).toArray 5)) w.heap.size n z0 := heap_alloc_new w _

/-- copy(l, page[:]). -/
theorem copy_out {w : World} {b n : Nat} {f : Nat → Nat} (rb : RB w b n f) (dc cap c o : Nat) (h : Nat → Nat) (H : Cells w c o n h) (ty : TypeId) :
    (Builtin.copy_ #[40, 40] ty #[.slice (some ⟨b, 0, none⟩) n dc, .slice (some ⟨c, o, none⟩) n cap]).run Tryd.prog w = .ok (goInt n) (w.setRow b (bytesOf h n).toArray) := by
  have := run_copy_row Tryd.prog w 40 40 ty 5 b 0 n dc ⟨c, o, none⟩ n cap _ _ (bytesOf h n) Tryd.underlying40 (by kernel_rfl) rb (by rw [bytesOf_len]; exact (Nat.min_self n).symm) H.news (by simp [bytesOf_len]) (bytesOf_one h n)
  rw [bytesOf_len, List.toList_toArray, bytesOf_lay f h n 0 n (by omega)] at this
  rw [this, bytesOf_like (f := h) (f' := layF f 0 n h) (fun i hi => by unfold layF; rw [if_pos (by omega), Nat.sub_zero])]

set_option maxHeartbeats 1000000 in
theorem pget_ok {w : World} {S : Nat → Prop} {p N ops : Nat} {F : Nat → Nat → Nat} (h : PM w S p N ops F) (x : Nat) (hx : x < N) :
    Calls Tryd.prog 13 #[.pointer (some ⟨p, 0, none⟩), .int .i64 (x : Int)] w fun e w' => e = .returned (.tuple #[.slice (some ⟨w.heap.size, 0, none⟩) 4096 4096, .int .i64 0]) ∧ RB w' w.heap.size 4096 (F x) ∧ Kp w w' := by
  obtain ⟨bm, g, h⟩ := h
  have k1 := phas_cell p N x w h.c0
  rw [(hasF_iff N x).2 (by omega)] at k1
  have hmk := make_page w
  have kA : Kp w (w.alloc (.cells (bytesOf z0 4096).toArray 5)) := (Kp.refl w).alloc _
  have rb := RB.made w 4096
  have hA := h.fr (kA.fr (fun _ => False)) (fun _ _ => id)
  have c2 := hA.c2
  have hl := hA.map.look (x : Int) (wf_nat (by have := h.n2; omega))
  cases eg : g (x : Int) with
  | none =>
    simp only [at_, eg, Option.map_none, Option.isSome_none] at hl
    have E : Hid (RB (w.alloc (.cells (bytesOf z0 4096).toArray 5)) w.heap.size 4096 (F x) ∧ Kp w (w.alloc (.cells (bytesOf z0 4096).toArray 5))) := ⟨rb.like (fun i hi => by rw [h.none x eg i hi]; rfl), kA⟩
    clear h hA rb kA hx eg
    generalize (bytesOf z0 4096).toArray = A at *
    go_enter Tryd.func13, Tryd.ntmps13
    go_wp2_with (go_at_call 37; with_reducible refine k1.mono ?_; rintro e w' ⟨rfl, rfl⟩)
    go_ret2
    exact ⟨rfl, E.out⟩
  | some b =>
    simp only [at_, eg, Option.map_some, Option.isSome_some] at hl
    have pg := (hA.page _ b eg).2.2.2
    rw [show ((x : Int)).toNat = x from rfl] at pg
    have cpy := copy_out rb 4096 4096 b 0 (F x) (pg.bs (h.byte x)).cells
    have sl := slice_all (w.alloc (.cells (bytesOf z0 4096).toArray 5)) b
    have E : Hid (RB ((w.alloc (.cells (bytesOf z0 4096).toArray 5)).setRow w.heap.size (bytesOf (F x) 4096).toArray) w.heap.size 4096 (F x) ∧ Kp w ((w.alloc (.cells (bytesOf z0 4096).toArray 5)).setRow w.heap.size (bytesOf (F x) 4096).toArray)) :=
      ⟨setRow_heap _ _ _ _ _ _ rb, ⟨rfl, rfl, rfl, by simp [World.setRow], fun k hk => (setRow_other _ _ k _ (by omega)).trans (kA.block k hk)⟩⟩
    clear h hA rb kA hx eg pg
    generalize (bytesOf z0 4096).toArray = A at *
    generalize (w.alloc (.cells A 5)).setRow w.heap.size (bytesOf (F x) 4096).toArray = w2 at *
    go_enter Tryd.func13, Tryd.ntmps13
    go_wp2_with (first | (go_at_call 37; with_reducible refine k1.mono ?_; rintro e w' ⟨rfl, rfl⟩) | (refine wpList_copy_of cpy _ _ rfl rfl rfl rfl ?_))
    go_ret2
    exact ⟨rfl, E.out⟩

/-! ### Same -/
section
variable {P : Program} {ops : Array Oper} {C : World → Prop} {Q : Act → Prop} {a : Act} {o : Oper} {rest : List Oper}
theorem wpQuiet_load_of {v va : Value} (t : TypeId) (hr : ∀ w, C w → (Instr.loadAt t va).run P w = .ok v w) (x : Operand) (hg : o.guard = none) (ho : o.op = .load t x) (hx : a.eval x = va) (h : wpQuiet P ops C Q rest (a.put o.dst v)) : wpQuiet P ops C Q (o :: rest) a := by
  refine wpQuiet_step fun K hK => ?_
  rw [if_pos (by simp [Region.wanted, hg])]
  refine ⟨v, fun w hw => ?_, hK _ h⟩
  unfold Oper.quietAt execOp
  simp only [ho, hx, Sem.run_bind, hr w hw, Result.andThen_ok, Sem.run_pure]
  exact ⟨rfl, rfl⟩
theorem wpQuiet_eql_of {v vx vy : Value} (t : TypeId) (hr : ∀ w, (binOp .eql t vx vy).run P w = .ok v w) (x y : Operand) (ty : TypeId) (hg : o.guard = none) (ho : o.op = .binOp .eql t x y ty) (hx : a.eval x = vx) (hy : a.eval y = vy) (hq : ∀ w, (eqGuard .eql t x y vx vy).run P w = .ok () w)
    (h : wpQuiet P ops C Q rest (a.put o.dst v)) : wpQuiet P ops C Q (o :: rest) a := by
  refine wpQuiet_step fun K hK => ?_
  rw [if_pos (by simp [Region.wanted, hg])]
  refine ⟨v, fun w _ => ?_, hK _ h⟩
  unfold Oper.quietAt execOp
  simp only [ho, hx, hy, Sem.run_bind, hq w, hr w, Result.andThen_ok, Sem.run_pure]
  exact ⟨rfl, rfl⟩
end

/-- Both frames are there, and alike. -/
def sameF (N : Nat) (F : Nat → Nat → Nat) (x y : Int) : Bool := hasF N x && hasF N y && alike (F x.toNat) (F y.toNat) 4096

set_option maxHeartbeats 1000000 in
theorem psame_any {w : World} {S : Nat → Prop} {p N ops : Nat} {F : Nat → Nat → Nat} (h : PM w S p N ops F) (x y : Int) :
    Calls Tryd.prog 23 #[.pointer (some ⟨p, 0, none⟩), .int .i64 x, .int .i64 y] w fun e w' => e = .returned (.bool (sameF N F x y)) ∧ Dr w w' := by
  obtain ⟨bm, g, h⟩ := h
  have k1 := phas_cell p N x w h.c0
  have k2 := phas_cell p N y w h.c0
  unfold sameF
  cases e1 : hasF N x
  · rw [e1] at k1
    clear k2 h
    go_enter Tryd.func23, Tryd.ntmps23
    go_wp2_with (go_at_call 37; with_reducible refine k1.mono ?_; rintro e w' ⟨rfl, rfl⟩)
    go_ret
    exact ⟨rfl, Dr.refl _⟩
  cases e2 : hasF N y
  · rw [e1] at k1
    rw [e2] at k2
    clear h
    go_enter Tryd.func23, Tryd.ntmps23
    go_wp2_with (first | (go_at_call 37; with_reducible refine k1.mono ?_; rintro e w' ⟨rfl, rfl⟩) | (go_at_call 37; with_reducible refine k2.mono ?_; rintro e w' ⟨rfl, rfl⟩))
    go_ret
    exact ⟨rfl, Dr.refl _⟩
  rw [e1] at k1
  rw [e2] at k2
  have b1 := (hasF_iff N x).1 e1
  have b2 := (hasF_iff N y).1 e2
  have hn := h.n2
  have c2 := h.c2
  have l1 := h.map.look x (WalkArith.wf_i64 (by omega))
  have l2 := h.map.look y (WalkArith.wf_i64 (by omega))
  simp only [at_] at l1 l2
  have ex : ((x.toNat : Nat) : Int) = x := by omega
  have ey : ((y.toNat : Nat) : Int) = y := by omega
  cases eg : g x with
  | none =>
    cases eh : g y with
    | none =>
      have ea : alike (F x.toNat) (F y.toNat) 4096 = true := alike_of (fun i hi => by rw [h.none x.toNat (by rw [ex]; exact eg) i hi, h.none y.toNat (by rw [ey]; exact eh) i hi])
      rw [ea]
      simp only [eg, Option.map_none, Option.isSome_none] at l1
      simp only [eh, Option.map_none, Option.isSome_none] at l2
      clear h e1 e2 b1 b2 ex ey eg eh ea
      go_enter Tryd.func23, Tryd.ntmps23
      go_wp2_with (first | (go_at_call 37; with_reducible refine k1.mono ?_; rintro e w' ⟨rfl, rfl⟩) | (go_at_call 37; with_reducible refine k2.mono ?_; rintro e w' ⟨rfl, rfl⟩))
      go_ret
      exact ⟨rfl, Dr.refl _⟩
    | some b =>
      have ea : alike (F x.toNat) (F y.toNat) 4096 = false := by
        obtain ⟨i, hi, hne⟩ := h.some y b eh
        exact alike_not hi (by rw [h.none x.toNat (by rw [ex]; exact eg) i hi]; exact fun e => hne e.symm)
      rw [ea]
      simp only [eg, Option.map_none, Option.isSome_none] at l1
      simp only [eh, Option.map_some, Option.isSome_some] at l2
      clear h e1 e2 b1 b2 ex ey eg eh ea
      go_enter Tryd.func23, Tryd.ntmps23
      go_wp2_with (first | (go_at_call 37; with_reducible refine k1.mono ?_; rintro e w' ⟨rfl, rfl⟩) | (go_at_call 37; with_reducible refine k2.mono ?_; rintro e w' ⟨rfl, rfl⟩))
      go_ret
      exact ⟨rfl, Dr.refl _⟩
  | some b =>
    cases eh : g y with
    | none =>
      have ea : alike (F x.toNat) (F y.toNat) 4096 = false := by
        obtain ⟨i, hi, hne⟩ := h.some x b eg
        exact alike_not hi (by rw [h.none y.toNat (by rw [ey]; exact eh) i hi]; exact hne)
      rw [ea]
      simp only [eg, Option.map_some, Option.isSome_some] at l1
      simp only [eh, Option.map_none, Option.isSome_none] at l2
      clear h e1 e2 b1 b2 ex ey eg eh ea
      go_enter Tryd.func23, Tryd.ntmps23
      go_wp2_with (first | (go_at_call 37; with_reducible refine k1.mono ?_; rintro e w' ⟨rfl, rfl⟩) | (go_at_call 37; with_reducible refine k2.mono ?_; rintro e w' ⟨rfl, rfl⟩))
      go_ret
      exact ⟨rfl, Dr.refl _⟩
    | some c =>
      have p1 := (h.page x b eg).2.2.2
      have p2 := (h.page y c eh).2.2.2
      have q1 : ∀ w', (∃ n, w' = w.drewN n) → (Instr.loadAt 88 (.pointer (some ⟨b, 0, none⟩))).run Tryd.prog w' = .ok (.agg (bytesOf (F x.toNat) 4096).toArray) w' := fun w' ⟨n, e⟩ => load_page (by rw [e]; exact p1)
      have q2 : ∀ w', (∃ n, w' = w.drewN n) → (Instr.loadAt 88 (.pointer (some ⟨c, 0, none⟩))).run Tryd.prog w' = .ok (.agg (bytesOf (F y.toNat) 4096).toArray) w' := fun w' ⟨n, e⟩ => load_page (by rw [e]; exact p2)
      have q3 := eql_pages (F x.toNat) (F y.toNat)
      simp only [eg, Option.map_some, Option.isSome_some] at l1
      simp only [eh, Option.map_some, Option.isSome_some] at l2
      clear h e1 e2 b1 b2 ex ey eg eh p1 p2
      generalize (bytesOf (F x.toNat) 4096).toArray = A at *
      generalize (bytesOf (F y.toNat) 4096).toArray = B at *
      generalize alike (F x.toNat) (F y.toNat) 4096 = r at *
      go_enter Tryd.func23, Tryd.ntmps23
      go_wp2_with (first | (go_at_call 37; with_reducible refine k1.mono ?_; rintro e w' ⟨rfl, rfl⟩) | (go_at_call 37; with_reducible refine k2.mono ?_; rintro e w' ⟨rfl, rfl⟩))
      refine wp_region_quiet_lit (by kernel_rfl) (by kernel_rfl) ?_
      go_big_quiet_step (fail)
      go_big_quiet_step (fail)
      refine wpQuiet_load_of 88 q1 _ rfl rfl rfl ?_
      (simp only [Act.put, List.setIfInBounds_toArray, List.set_cons_succ, List.set_cons_zero])
      go_big_quiet_step (fail)
      go_big_quiet_step (fail)
      refine wpQuiet_load_of 88 q2 _ rfl rfl rfl ?_
      (simp only [Act.put, List.setIfInBounds_toArray, List.set_cons_succ, List.set_cons_zero])
      refine wpQuiet_eql_of 88 q3 _ _ _ rfl rfl rfl rfl (eqGuard_page _ _ _ _) ?_
      (simp only [Act.put, List.setIfInBounds_toArray, List.set_cons_succ, List.set_cons_zero])
      go_big_quiet_step (fail)
      refine wpQuiet_nil ?_
      intro _ hw'
      obtain ⟨nq, hw''⟩ := hw'
      subst hw''
      go_wp2
      go_ret
      rw [Bool.true_and, Bool.true_and]
      exact ⟨rfl, ⟨nq, rfl⟩⟩

end Go.Proofs.YtpjlmmiceiionaaDoor
