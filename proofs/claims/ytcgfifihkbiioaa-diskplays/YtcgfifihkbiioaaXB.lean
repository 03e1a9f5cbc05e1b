/- The document's device: as it lies; New, has, Give, Free, Left, fails, Fail, Read. -/
import Derived.Test.YtcgfifihkbiioaaX8
namespace Go.Proofs.Ytcgfifihkbiioaa
open Go.RowKit Go.Maps

/-- The document's device whose struct is block q. -/
structure RMat (w : World) (S : Nat → Prop) (q bo bp N : Nat) (T : Slots) (v : Value) (A : List Bool) : Prop where
  own : ∀ k, S k → k < w.heap.size
  sq : S q
  so : S bo
  sp : S bp
  no : bo ≠ q
  np : bp ≠ q
  nop : bo ≠ bp
  row : w.heap[q]? = some (.cells #[.slice (some ⟨bo, 0, none⟩) N N, .slice (some ⟨bp, 0, none⟩) N N, v] 52 (0, 0))
  on : ON w bo N (fun x => (T x).isSome)
  pg : ∀ x, x < N → ∃ u, w.cell? ⟨bp, x, none⟩ = some u ∧ ∀ f, T x = some f → Bytes f ∧ ∃ c cap, u = .slice (some ⟨c, 0, none⟩) 4096 cap ∧ S c ∧ c ≠ q ∧ c ≠ bo ∧ c ≠ bp ∧ BS w c 0 4096 f
  pf : ∀ x, w.frozen? ⟨bp, x, none⟩ = false
  over : ∀ x, N ≤ x → T x = none
  n2 : N ≤ 4096
  ah : AH w v A (fun b => S b ∧ b ≠ q ∧ b ≠ bo ∧ b ≠ bp)
def RK (w : World) (S : Nat → Prop) (q N : Nat) (T : Slots) (A : List Bool) : Prop := ∃ bo bp v, RMat w S q bo bp N T v A

theorem RMat.fr {w w' : World} {S X : Nat → Prop} {q bo bp N : Nat} {T : Slots} {v : Value} {A : List Bool} (h : RMat w S q bo bp N T v A) (k : Fr X w w') (hX : ∀ i, S i → ¬ X i) : RMat w' S q bo bp N T v A :=
  ⟨fun i hi => Nat.lt_of_lt_of_le (h.own i hi) k.size, h.sq, h.so, h.sp, h.no, h.np, h.nop, (k.block q (h.own q h.sq) (hX q h.sq)).trans h.row, h.on.fr k (hX bo h.so),
   fun x hx => by
    obtain ⟨u, h1, h2⟩ := h.pg x hx
    refine ⟨u, (k.cell (a := ⟨bp, x, none⟩) (h.own bp h.sp) (hX bp h.sp)).trans h1, fun f hf => ?_⟩
    obtain ⟨b1, c, cap, r1, r2, r3, r4, r5, r6⟩ := h2 f hf
    exact ⟨b1, c, cap, r1, r2, r3, r4, r5, r6.fr k (hX c r2)⟩,
   fun x => (World.frozen?_of_block (a := ⟨bp, x, none⟩) (k.block bp (h.own bp h.sp) (hX bp h.sp))).trans (h.pf x), h.over, h.n2, h.ah.fr k (fun b _ hb => hX b hb.1) (fun _ _ h => h)⟩
theorem RK.fr {w w' : World} {S X : Nat → Prop} {q N : Nat} {T : Slots} {A : List Bool} (h : RK w S q N T A) (k : Fr X w w') (hX : ∀ i, S i → ¬ X i) : RK w' S q N T A := by
  obtain ⟨bo, bp, v, h⟩ := h
  exact ⟨bo, bp, v, h.fr k hX⟩
theorem RK.kp {w w' : World} {S : Nat → Prop} {q N : Nat} {T : Slots} {A : List Bool} (h : RK w S q N T A) (k : Kp w w') : RK w' S q N T A := h.fr (k.fr (fun _ => False)) (fun _ _ => id)
theorem RK.own {w : World} {S : Nat → Prop} {q N : Nat} {T : Slots} {A : List Bool} (h : RK w S q N T A) : ∀ i, S i → i < w.heap.size := by
  obtain ⟨bo, bp, v, h⟩ := h
  exact h.own
section
variable {w : World} {S : Nat → Prop} {q bo bp N : Nat} {T : Slots} {v : Value} {A : List Bool}
theorem RMat.c0 (h : RMat w S q bo bp N T v A) : w.cell? ⟨q, 0, none⟩ = some (.slice (some ⟨bo, 0, none⟩) N N) := by rw [cell_of_row w q 0 _ _ _ h.row]; rfl
theorem RMat.c1 (h : RMat w S q bo bp N T v A) : w.cell? ⟨q, 1, none⟩ = some (.slice (some ⟨bp, 0, none⟩) N N) := by rw [cell_of_row w q 1 _ _ _ h.row]; rfl
theorem RMat.c2 (h : RMat w S q bo bp N T v A) : w.cell? ⟨q, 2, none⟩ = some v := by rw [cell_of_row w q 2 _ _ _ h.row]; rfl
theorem RMat.f2 (h : RMat w S q bo bp N T v A) : w.frozen? ⟨q, 2, none⟩ = false := frozen_of_row w q 2 _ _ h.row
theorem RMat.has_nat (h : RMat w S q bo bp N T v A) {x : Int} (hx : hasT T x = true) : ((x.toNat : Nat) : Int) = x ∧ x.toNat < N := by
  obtain ⟨h1, h2⟩ := (hasT_iff T x).1 hx
  refine ⟨by omega, ?_⟩
  by_cases c : x.toNat < N
  · exact c
  · rw [h.over _ (by omega)] at h2; cases h2
end

/-! ### New -/
theorem info_bytes : ∃ i, Try.prog.info? 31 = some i ∧ i.zero = some (.slice none 0 0) ∧ i.size = 1 ∧ i.bytes = 24 := by
  have h : (Try.prog.info? 31).map (fun i => (i.zero, i.size, i.bytes)) = some (some (.slice none 0 0), 1, 24) := by kernel_rfl
  obtain ⟨i, hi, e⟩ := Option.map_eq_some_iff.1 h
  simp only [Prod.mk.injEq] at e
  exact ⟨i, hi, e.1, e.2.1, e.2.2⟩
def nils (n : Nat) : Array Value := madeCells #[Value.slice none 0 0] n
theorem nils_get (n i : Nat) (h : i < n) : (nils n)[i]? = some (.slice none 0 0) := by simp [nils, madeCells, h, Nat.mod_one]
theorem make_nils (n : Nat) (w : World) (hn : n ≤ 1000000) :
    (Instr.makeSlice 50 (.int .i64 (n : Int)) (.int .i64 (n : Int))).run Try.prog w = .ok (.slice (some ⟨w.heap.size, 0, none⟩) n n) (w.alloc (.cells (nils n) 31)) := by
  obtain ⟨i0, hi, hz0, hz1, hz2⟩ := info_bytes
  have := run_make (P := Try.prog) w 50 31 i0 (.slice none 0 0) Try.underlying50 hi hz0 .i64 .i64 n n (by omega) (by omega) (by rw [hz2]; omega) (by omega)
  rw [hz1, Nat.mul_one] at this
  exact this

theorem size1 (w : World) (X : Obj) : (w.alloc X).heap.size = w.heap.size + 1 := by simp
theorem three0 (w : World) (X Y Z : Obj) : (((w.alloc X).alloc Y).alloc Z).drew.heap[w.heap.size]? = some X :=
  ((((Kp.refl (w.alloc X)).alloc Y).alloc Z).drew.block w.heap.size (by rw [size1]; omega)).trans (heap_alloc_new w X)
theorem three1 (w : World) (X Y Z : Obj) : (((w.alloc X).alloc Y).alloc Z).drew.heap[w.heap.size + 1]? = some Y := by
  have h := heap_alloc_new (w.alloc X) Y
  rw [size1] at h
  exact (((Kp.refl ((w.alloc X).alloc Y)).alloc Z).drew.block (w.heap.size + 1) (by rw [size1, size1]; omega)).trans h
theorem three2 (w : World) (X Y Z : Obj) : (((w.alloc X).alloc Y).alloc Z).drew.heap[w.heap.size + 1 + 1]? = some Z := by
  have h := heap_alloc_new ((w.alloc X).alloc Y) Z
  rw [size1, size1] at h
  exact h
theorem rmade {w W : World} {n q bo bp : Nat} (k : Kp w W) (row : W.heap[q]? = some (.cells #[.slice (some ⟨bo, 0, none⟩) n n, .slice (some ⟨bp, 0, none⟩) n n, .slice none 0 0] 52 (0, 0))) (on : W.heap[bo]? = some (.cells (marksOf (List.replicate n false)).toArray 4 (0, 0))) (pr : W.heap[bp]? = some (.cells (nils n) 31 (0, 0)))
    (h1 : w.heap.size ≤ q) (h2 : w.heap.size ≤ bo) (h3 : w.heap.size ≤ bp) (d1 : bo ≠ q) (d2 : bp ≠ q) (d3 : bo ≠ bp) (hn : n ≤ 4096) :
    ∃ S, RK W S q n (fun _ => none) [] ∧ Kp w W ∧ ∀ k, S k → w.heap.size ≤ k := by
  have lq := (Array.getElem?_eq_some_iff.1 row).1
  have lo := (Array.getElem?_eq_some_iff.1 on).1
  have lp := (Array.getElem?_eq_some_iff.1 pr).1
  refine ⟨fun k => k = q ∨ k = bo ∨ k = bp, ⟨bo, bp, _, ⟨fun k hk => by rcases hk with rfl | rfl | rfl <;> assumption, .inl rfl, .inr (.inl rfl), .inr (.inr rfl), d1, d2, d3, row, ⟨lo, fun i hi => ?_, fun i => frozen_of_row W bo i _ _ on⟩, fun x hx => ⟨.slice none 0 0, ?_, fun f hf => by cases hf⟩, fun x => frozen_of_row W bp x _ _ pr, fun _ _ => rfl, hn, AH.nil _ _⟩⟩, k, fun k hk => by rcases hk with rfl | rfl | rfl <;> assumption⟩
  · rw [cell_of_row W bo i _ _ _ on]; simp [marksOf, hi]
  · rw [cell_of_row W bp x _ _ _ pr]; exact nils_get n x hx

set_option maxHeartbeats 1000000 in
theorem rnew_ok (n : Nat) (w : World) (h2 : n ≤ 4096) :
    Calls Try.prog 8 #[.int .i64 (n : Int)] w fun e w' => ∃ q S, e = .returned (.tuple #[.pointer (some ⟨q, 0, none⟩), .int .i64 0]) ∧ RK w' S q n (fun _ => none) [] ∧ Kp w w' ∧ ∀ k, S k → w.heap.size ≤ k := by
  have z2 : (n : Int) ≤ 4096 := by omega
  have m1 := fun w => make_marks n w (by omega)
  have m2 := fun w => make_nils n w (by omega)
  have E1 : Aside (∃ S, RK (((w.alloc (.cells (marksOf (List.replicate n false)).toArray 4)).alloc (.cells (nils n) 31)).alloc (.cells #[.slice (some ⟨w.heap.size, 0, none⟩) n n, .slice (some ⟨w.heap.size + 1, 0, none⟩) n n, .slice none 0 0] 52)).drew S (w.heap.size + 1 + 1) n (fun _ => none) [] ∧ Kp w (((w.alloc (.cells (marksOf (List.replicate n false)).toArray 4)).alloc (.cells (nils n) 31)).alloc (.cells #[.slice (some ⟨w.heap.size, 0, none⟩) n n, .slice (some ⟨w.heap.size + 1, 0, none⟩) n n, .slice none 0 0] 52)).drew ∧ ∀ k, S k → w.heap.size ≤ k) :=
    rmade ((((Kp.refl w).alloc _).alloc _).alloc _).drew (three2 w _ _ _) (three0 w _ _ _) (three1 w _ _ _) (by omega) (by omega) (by omega) (by omega) (by omega) (by omega) h2
  have E2 : Aside (∃ S, RK (((w.alloc (.cells (nils n) 31)).alloc (.cells (marksOf (List.replicate n false)).toArray 4)).alloc (.cells #[.slice (some ⟨w.heap.size + 1, 0, none⟩) n n, .slice (some ⟨w.heap.size, 0, none⟩) n n, .slice none 0 0] 52)).drew S (w.heap.size + 1 + 1) n (fun _ => none) [] ∧ Kp w (((w.alloc (.cells (nils n) 31)).alloc (.cells (marksOf (List.replicate n false)).toArray 4)).alloc (.cells #[.slice (some ⟨w.heap.size + 1, 0, none⟩) n n, .slice (some ⟨w.heap.size, 0, none⟩) n n, .slice none 0 0] 52)).drew ∧ ∀ k, S k → w.heap.size ≤ k) :=
    rmade ((((Kp.refl w).alloc _).alloc _).alloc _).drew (three2 w _ _ _) (three1 w _ _ _) (three0 w _ _ _) (by omega) (by omega) (by omega) (by omega) (by omega) (by omega) h2
  generalize (marksOf (List.replicate n false)).toArray = M1 at *
  generalize nils n = M2 at *
  go_enter Try.func8, Try.ntmps8
  go_wp2_with fail
  go_region
  · go_wp2
    go_ret2
    obtain ⟨S, r⟩ := E1.out
    exact ⟨_, S, rfl, r⟩
  · go_wp2
    go_ret2
    obtain ⟨S, r⟩ := E2.out
    exact ⟨_, S, rfl, r⟩
theorem rnew_no (n : Int) (w : World) (h : n < 0 ∨ 4096 < n) :
    Calls Try.prog 8 #[.int .i64 n] w fun e w' => e = .returned (.tuple #[.pointer none, .int .i64 1]) ∧ w' = w := by
  rcases h with h | h
  · go_enter Try.func8, Try.ntmps8
    go_wp2
    go_ret2
    exact ⟨rfl, rfl⟩
  · have h' : ¬ n < 0 := by omega
    go_enter Try.func8, Try.ntmps8
    go_wp2
    go_ret2
    exact ⟨rfl, rfl⟩

/-! ### has, Give, Free -/
set_option maxHeartbeats 1000000 in
theorem rhas_any {w : World} {S : Nat → Prop} {q bo bp N : Nat} {T : Slots} {v : Value} {A : List Bool} (h : RMat w S q bo bp N T v A) (x : Int) :
    Calls Try.prog 26 #[.pointer (some ⟨q, 0, none⟩), .int .i64 x] w fun e w' => e = .returned (.bool (hasT T x)) ∧ w' = w := by
  have c0 := h.c0
  by_cases y1 : 0 ≤ x
  · by_cases y2 : x < (N : Int)
    · obtain ⟨n, rfl⟩ : ∃ n : Nat, x = n := ⟨x.toNat, by omega⟩
      have c1 := h.on.cell n (by omega)
      rw [hasT_nat]
      clear h
      generalize (T n).isSome = r at *
      go_enter Try.func26, Try.ntmps26
      go_wp2
      go_ret
      exact ⟨by simp, rfl⟩
    · have hr : hasT T x = false := by
        unfold hasT
        rw [h.over x.toNat (by omega)]; simp
      rw [hr]
      clear h hr
      go_enter Try.func26, Try.ntmps26
      go_wp2
      go_ret
      exact ⟨rfl, rfl⟩
  · have hr : hasT T x = false := by unfold hasT; rw [decide_eq_false y1]; rfl
    rw [hr]
    clear h hr
    go_enter Try.func26, Try.ntmps26
    go_wp2
    go_ret
    exact ⟨rfl, rfl⟩

/-- On[x] = v. -/
theorem RMat.mark {w : World} {S : Nat → Prop} {q bo bp N : Nat} {T T' : Slots} {v : Value} {A : List Bool} (h : RMat w S q bo bp N T v A) (x : Nat) (hx : x < N) (m : Bool) (h1 : ∀ y, y < N → (T' y).isSome = if y = x then m else (T y).isSome) (h2 : ∀ y f, T' y = some f → T y = some f) (h3 : ∀ y, N ≤ y → T' y = none) :
    RMat (w.setCell ⟨bo, x, none⟩ (.bool m)) S q bo bp N T' v A ∧ Fr S w (w.setCell ⟨bo, x, none⟩ (.bool m)) := by
  have k : Fr (· = bo) w (w.setCell ⟨bo, x, none⟩ (.bool m)) := (Fr.refl _ w).set _ _ rfl
  refine ⟨⟨fun i hi => Nat.lt_of_lt_of_le (h.own i hi) k.size, h.sq, h.so, h.sp, h.no, h.np, h.nop, (k.block q (h.own q h.sq) (fun e => h.no e.symm)).trans h.row, (h.on.set x hx m).like h1, fun y hy => ?_, fun y => ?_, h3, h.n2, h.ah.fr k (fun b _ hb e => hb.2.2.1 e) (fun _ _ h => h)⟩, k.mono (fun i _ e => by rw [e]; exact h.so)⟩
  · obtain ⟨u, r1, r2⟩ := h.pg y hy
    refine ⟨u, (k.cell (a := ⟨bp, y, none⟩) (h.own bp h.sp) (fun e => h.nop e.symm)).trans r1, fun f hf => ?_⟩
    obtain ⟨b1, c, cap, s1, s2, s3, s4, s5, s6⟩ := r2 f (h2 y f hf)
    exact ⟨b1, c, cap, s1, s2, s3, s4, s5, s6.fr k s4⟩
  · exact (World.frozen?_of_block (a := ⟨bp, y, none⟩) (k.block bp (h.own bp h.sp) (fun e => h.nop e.symm))).trans (h.pf y)

set_option maxHeartbeats 1000000 in
theorem rgive_any {w : World} {S : Nat → Prop} {q N : Nat} {T : Slots} {A : List Bool} (h : RK w S q N T A) (x : Int) :
    Calls Try.prog 12 #[.pointer (some ⟨q, 0, none⟩), .int .i64 x] w fun e w' => e = .returned (.int .i64 (gvR T x)) ∧ RK w' S q N (gvT T x) A ∧ Fr S w w' := by
  obtain ⟨bo, bp, v, h⟩ := h
  have k1 := rhas_any h x
  by_cases c : hasT T x = true
  · rw [show gvR T x = 0 from if_pos c, show gvT T x = offT T x.toNat from if_pos c]
    rw [c] at k1
    obtain ⟨ex, hl⟩ := h.has_nat c
    have c0 := h.c0
    have q1 := h.mark (T' := offT T x.toNat) x.toNat hl false (fun y _ => by
      by_cases e : y = x.toNat
      · rw [if_pos e, e, offT_same]; rfl
      · rw [if_neg e, offT_other _ _ _ e]) (fun y f hf => by
      by_cases e : y = x.toNat
      · rw [e, offT_same] at hf; cases hf
      · rwa [offT_other _ _ _ e] at hf) (fun y hy => by rw [offT_other _ _ _ (by omega)]; exact h.over y hy)
    have co := h.on.cell x.toNat hl
    have cf := h.on.frz x.toNat
    obtain ⟨n, hn⟩ : ∃ n, x.toNat = n := ⟨_, rfl⟩
    rw [hn] at ex co cf hl q1
    rw [hn]
    subst ex
    have y1 : (n : Int) < N := by omega
    have E : Hid (RK (w.setCell ⟨bo, n, none⟩ (.bool false)) S q N (offT T n) A ∧ Fr S w (w.setCell ⟨bo, n, none⟩ (.bool false))) := ⟨⟨bo, bp, v, q1.1⟩, q1.2⟩
    clear h q1 c hl hn
    generalize (T n).isSome = r at *
    go_enter Try.func12, Try.ntmps12
    go_wp2_with (go_at_call 26; with_reducible refine k1.mono ?_; rintro e w' ⟨rfl, rfl⟩)
    go_ret
    exact ⟨rfl, E.out⟩
  · rw [show gvR T x = 23 from if_neg c, show gvT T x = T from if_neg c]
    rw [show hasT T x = false by simpa using c] at k1
    have E : Hid (RK w S q N T A ∧ Fr S w w) := ⟨⟨bo, bp, v, h⟩, Fr.refl _ _⟩
    clear h c
    go_enter Try.func12, Try.ntmps12
    go_wp2_with (go_at_call 26; with_reducible refine k1.mono ?_; rintro e w' ⟨rfl, rfl⟩)
    go_ret
    exact ⟨rfl, E.out⟩

set_option maxHeartbeats 2000000 in
theorem rfree_any {w : World} {S : Nat → Prop} {q N : Nat} {T : Slots} {A : List Bool} (h : RK w S q N T A) :
    Calls Try.prog 21 #[.pointer (some ⟨q, 0, none⟩)] w fun e w' => e = .returned (.int .i64 ((N : Int) - (tkn T N : Nat))) ∧ w' = w := by
  obtain ⟨bo, bp, v, h⟩ := h
  have c0 := h.c0
  have z1 : (N : Int) ≤ 4096 := by have := h.n2; omega
  have HH : Aside (∀ i, i < N → w.cell? ⟨bo, i, none⟩ = some (.bool (T i).isSome)) := fun i hi => h.on.cell i hi
  clear h
  go_enter Try.func21, Try.ntmps21
  go_wp2_with fail
  go_loopg [3, 4] (N + 1) (fun g v3 v4 wq => ∃ (j : Nat), v3 = .int .i64 ((j : Int) - (tkn T j : Nat)) ∧ v4 = .int .i64 (j : Int) ∧ j ≤ N ∧ N + 1 - j ≤ g ∧ wq = w)
  case atStart => exact ⟨0, by rw [tkn]; rfl, rfl, by omega, by omega, rfl⟩
  case round =>
    obtain ⟨j, rfl, rfl, hj, hgj, rfl⟩ := hrel
    have hle := tkn_le T j
    by_cases hjn : j < N
    · have y7 : (j : Int) < N := by omega
      have d1 := HH.out j hjn
      obtain ⟨fr, hfr⟩ : ∃ fr : Nat, (j : Int) - (tkn T j : Nat) = (fr : Int) := ⟨j - tkn T j, by omega⟩
      have y8 : (fr : Int) ≤ 4096 := by omega
      cases hv : (T j).isSome
      · have hs := sub_tkn' T j hv
        rw [hv] at d1
        rw [hfr] at hs
        have HS : Hid (((j : Int) + 1) - (tkn T (j + 1) : Nat) = (fr : Int) + 1) := hs
        clear hs hv hle
        rw [hfr]
        clear hfr
        go_wp2
        go_roundg (N + 1 - (j + 1))
        case measure => omega
        case rel => exact ⟨j + 1, by rw [show ((j + 1 : Nat) : Int) = (j : Int) + 1 by omega, HS.out], by go_num, by omega, by omega, rfl⟩
      · have hs := sub_tkn T j hv
        rw [hv] at d1
        rw [hfr] at hs
        have HS : Hid (((j : Int) + 1) - (tkn T (j + 1) : Nat) = (fr : Int)) := hs
        clear hs hv hle
        rw [hfr]
        clear hfr
        go_wp2
        go_roundg (N + 1 - (j + 1))
        case measure => omega
        case rel => exact ⟨j + 1, by rw [show ((j + 1 : Nat) : Int) = (j : Int) + 1 by omega, HS.out], by go_num, by omega, by omega, rfl⟩
    · have e : j = N := by omega
      subst e
      have y7 : ¬ (j : Int) < j := by omega
      go_wp2
      go_ret
      exact ⟨rfl, rfl⟩

/-! ### fails, Fail, Read -/
/-- d.L = u. -/
theorem RMat.told {w w1 : World} {S S' : Nat → Prop} {q bo bp N : Nat} {T : Slots} {v u : Value} {A B : List Bool} (h : RMat w S q bo bp N T v A) (k : Kp w w1) (hS : ∀ i, S i → S' i) (hS' : ∀ i, S' i → i < w1.heap.size) (hu : AH w1 u B (fun b => S' b ∧ b ≠ q ∧ b ≠ bo ∧ b ≠ bp)) :
    RMat (w1.setCell ⟨q, 2, none⟩ u) S' q bo bp N T u B ∧ Fr S w (w1.setCell ⟨q, 2, none⟩ u) := by
  have h1 := h.fr (k.fr (fun _ => False)) (fun _ _ => id)
  have k2 : Fr (· = q) w1 (w1.setCell ⟨q, 2, none⟩ u) := (Fr.refl _ w1).set _ _ rfl
  refine ⟨⟨fun i hi => by rw [World.size_setCell]; exact hS' i hi, hS _ h.sq, hS _ h.so, hS _ h.sp, h.no, h.np, h.nop, ?_, h1.on.fr k2 h.no, fun y hy => ?_, fun y => ?_, h.over, h.n2, hu.fr k2 (fun b _ hb e => hb.2.1 e) (fun _ _ h => h)⟩, (k.fr _).trans (k2.mono (fun i _ e => by rw [e]; exact h.sq))⟩
  · rw [heap_setCell_same w1 q 2 _ _ _ h1.row]
    simp
  · obtain ⟨c, r1, r2⟩ := h1.pg y hy
    refine ⟨c, (k2.cell (a := ⟨bp, y, none⟩) (h1.own bp h.sp) h.np).trans r1, fun f hf => ?_⟩
    obtain ⟨b1, c, cap, s1, s2, s3, s4, s5, s6⟩ := r2 f hf
    exact ⟨b1, c, cap, s1, hS _ s2, s3, s4, s5, s6.fr k2 s3⟩
  · exact (World.frozen?_of_block (a := ⟨bp, y, none⟩) (k2.block bp (h1.own bp h.sp) h.np)).trans (h1.pf y)

set_option maxHeartbeats 2000000 in
theorem rfails_any {w : World} {S : Nat → Prop} {q bo bp N : Nat} {T : Slots} {v : Value} {A : List Bool} (h : RMat w S q bo bp N T v A) :
    Calls Try.prog 28 #[.pointer (some ⟨q, 0, none⟩)] w fun e w' => e = .returned (.bool (A.headD false)) ∧ (∃ v', RMat w' S q bo bp N T v' A.tail) ∧ Fr S w w' := by
  obtain ⟨na, cap, rfl, l1, l2, hA⟩ := h.ah
  have c2 := h.c2
  have f2 := h.f2
  cases A with
  | nil =>
    have E : Hid ((∃ v', RMat w S q bo bp N T v' []) ∧ Fr S w w) := ⟨⟨_, h⟩, Fr.refl _ _⟩
    clear h
    rw [List.length_nil] at c2
    go_enter Try.func28, Try.ntmps28
    go_wp2
    go_ret
    exact ⟨rfl, E.out⟩
  | cons a r =>
    obtain ⟨b, o, rfl, e2, e3, e4⟩ := hA (by simp)
    have d0 := e4 0 a rfl
    rw [Nat.add_zero] at d0
    rw [List.length_cons] at c2 l1 l2
    have ht := fun u (hu : AH w u r (fun b => S b ∧ b ≠ q ∧ b ≠ bo ∧ b ≠ bp)) => h.told (Kp.refl w) (fun _ h => h) h.own hu
    by_cases c : cap = 1
    · subst c
      have er : r = [] := List.eq_nil_of_length_eq_zero (by omega)
      subst er
      have E := ht (.slice (some ⟨b, o, none⟩) 0 0) ⟨_, _, rfl, Nat.le_refl _, Nat.zero_le _, fun h => absurd rfl h⟩
      have EE : Hid ((∃ v', RMat (w.setCell ⟨q, 2, none⟩ (.slice (some ⟨b, o, none⟩) 0 0)) S q bo bp N T v' []) ∧ Fr S w (w.setCell ⟨q, 2, none⟩ (.slice (some ⟨b, o, none⟩) 0 0))) := ⟨⟨_, E.1⟩, E.2⟩
      clear h ht E e2 e3 e4 l1 l2
      rw [List.length_nil] at c2
      go_enter Try.func28, Try.ntmps28
      go_wp2
      go_ret
      exact ⟨rfl, EE.out⟩
    · have E := ht (.slice (some ⟨b, o + 1, none⟩) r.length (cap - 1)) ⟨_, _, rfl, by omega, by omega, fun _ => ⟨b, o + 1, rfl, e2, e3, fun i x hx => by rw [Nat.add_assoc, Nat.add_comm 1 i]; exact e4 (i + 1) x (by simpa using hx)⟩⟩
      have EE : Hid ((∃ v', RMat (w.setCell ⟨q, 2, none⟩ (.slice (some ⟨b, o + 1, none⟩) r.length (cap - 1))) S q bo bp N T v' r) ∧ Fr S w (w.setCell ⟨q, 2, none⟩ (.slice (some ⟨b, o + 1, none⟩) r.length (cap - 1)))) := ⟨⟨_, E.1⟩, E.2⟩
      have z1 : ((r.length : Nat) : Int) + 1 ≤ cap := by omega
      clear h ht E e2 e3 e4
      rw [List.headD_cons, List.tail_cons]
      generalize r.length = n at *
      go_enter Try.func28, Try.ntmps28
      go_wp2
      go_ret
      exact ⟨rfl, EE.out⟩

set_option maxHeartbeats 2000000 in
theorem rfail_any {w : World} {S : Nat → Prop} {q N : Nat} {T : Slots} {A : List Bool} (h : RK w S q N T A) (na : Option Addr) (n cap : Nat) (nb : Nat → Bool) (H : NS w na n nb) (hc : na = none → n = 0 ∧ cap = 0) (h1 : n ≤ 4000000000) :
    Calls Try.prog 19 #[.pointer (some ⟨q, 0, none⟩), .slice na n cap] w fun e w' => e = .returned (.tuple #[]) ∧ ∃ S', RK w' S' q N T (bl nb n) ∧ Fr S w w' ∧ Less S S' w := by
  obtain ⟨bo, bp, v, h⟩ := h
  obtain ⟨g, cap', w1, r1, r2, K1⟩ := copyB w na n cap nb H hc h1
  have hM := h.fr (K1.fr (fun _ => False)) (fun _ _ => id)
  have c2 := hM.c2
  have f2 := hM.f2
  have hg := r2.facts
  have hu : AH w1 (.slice (some ⟨g, 0, none⟩) n cap') (bl nb n) (fun b => (S b ∨ b = g) ∧ b ≠ q ∧ b ≠ bo ∧ b ≠ bp) := ⟨_, _, by rw [bl_len], hg.2.2, by rw [bl_len]; omega, fun _ => ⟨g, 0, rfl, hg.2.1, ⟨.inr rfl, (by have := h.own q h.sq; omega), (by have := h.own bo h.so; omega), by have := h.own bp h.sp; omega⟩, fun i x hx => by rw [Nat.zero_add]; exact r2.cell i x hx⟩⟩
  have t := h.told (S' := fun k => S k ∨ k = g) K1 (fun _ hi => .inl hi) (fun i hi => hi.elim (fun hi => Nat.lt_of_lt_of_le (h.own i hi) K1.size) (fun e => by rw [e]; exact hg.2.1)) hu
  have E : Hid (∃ S', RK (w1.setCell ⟨q, 2, none⟩ (.slice (some ⟨g, 0, none⟩) n cap')) S' q N T (bl nb n) ∧ Fr S w (w1.setCell ⟨q, 2, none⟩ (.slice (some ⟨g, 0, none⟩) n cap')) ∧ Less S S' w) := ⟨_, ⟨bo, bp, _, t.1⟩, t.2, fun k hk => hk.elim .inl (fun e => .inr (by rw [e]; exact hg.1))⟩
  obtain ⟨nu, cu, rfl, _⟩ := h.ah
  clear h hM t hu hg r2 K1 H hc h1
  go_enter Try.func19, Try.ntmps19
  repeat' (first | ((with_reducible refine wp_append_of r1 (.tmp 5) (.tmp 6) ?_ ?_ ?_ ?_ ?_); rfl; rfl; rfl; rfl) | go_values | go_skip | go_guarded | go_step | go_upon | go_back | (simp only []) | (go_values <;> (try go_simp)) | (go_ite <;> go_prune <;> (try go_simp)))
  go_end0
  exact ⟨rfl, E.out⟩

set_option maxHeartbeats 2000000 in
theorem rread_ok {w : World} {S : Nat → Prop} {q N : Nat} {T : Slots} {A : List Bool} (h : RK w S q N T A) (x : Int) (c : hasT T x = true) (hh : A.headD false = false) :
    Calls Try.prog 17 #[.pointer (some ⟨q, 0, none⟩), .int .i64 x] w fun e w' => ∃ b cap, e = .returned (.tuple #[.slice (some ⟨b, 0, none⟩) 4096 cap, .int .i64 0]) ∧ S b ∧ BS w' b 0 4096 (rdF T x) ∧ RK w' S q N T A.tail ∧ Fr S w w' := by
  obtain ⟨bo, bp, v, h⟩ := h
  have k1 := rhas_any h x
  have k2 := rfails_any h
  rw [c] at k1
  rw [hh] at k2
  obtain ⟨ex, hl⟩ := h.has_nat c
  obtain ⟨f, hf⟩ := Option.isSome_iff_exists.1 ((hasT_iff T x).1 c).2
  have HF : Hid (T x.toNat = some f) := hf
  obtain ⟨n, hn⟩ : ∃ n, x.toNat = n := ⟨_, rfl⟩
  rw [hn] at ex hl
  have HN : Hid (x.toNat = n) := hn
  have y1 : (n : Int) < N := by omega
  clear h c hh hf hn
  subst ex
  go_enter Try.func17, Try.ntmps17
  go_wp2_with (go_at_call 26; with_reducible refine k1.mono ?_; rintro e w' ⟨rfl, rfl⟩)
  with_reducible refine k2.mono ?_
  rintro e w1 ⟨rfl, ⟨v', M1⟩, F1⟩
  have c1 := M1.c1
  obtain ⟨u, u1, u2⟩ := M1.pg n hl
  obtain ⟨b1, b, cap, rfl, s2, s3, s4, s5, s6⟩ := u2 f (by rw [← HN.out]; exact HF.out)
  have E : Hid (S b ∧ BS w1 b 0 4096 (rdF T (n : Int)) ∧ RK w1 S q N T A.tail ∧ Fr S w' w1) := ⟨s2, by unfold rdF; rw [HF.out]; exact s6, ⟨bo, bp, v', M1⟩, F1⟩
  clear M1 F1 k1 k2 u2 b1 s2 s3 s4 s5 s6 HF HN
  go_wp2
  go_ret2
  exact ⟨b, cap, rfl, E.out⟩

set_option maxHeartbeats 2000000 in
theorem rread_no {w : World} {S : Nat → Prop} {q N : Nat} {T : Slots} {A : List Bool} (h : RK w S q N T A) (x : Int) (c : ¬ (hasT T x = true ∧ A.headD false = false)) :
    Calls Try.prog 17 #[.pointer (some ⟨q, 0, none⟩), .int .i64 x] w fun e w' => e = .returned (.tuple #[.slice none 0 0, .int .i64 (rdR T A x)]) ∧ RK w' S q N T (rdA T A x) ∧ Fr S w w' := by
  obtain ⟨bo, bp, v, h⟩ := h
  have k1 := rhas_any h x
  unfold rdR rdA
  by_cases c' : hasT T x = true
  · have hh : A.headD false = true := by
      cases e : A.headD false
      · exact absurd ⟨c', e⟩ c
      · rfl
    have k2 := rfails_any h
    rw [c'] at k1
    rw [hh] at k2
    rw [if_pos c', if_pos hh, if_pos c']
    clear h c c' hh
    go_enter Try.func17, Try.ntmps17
    go_wp2_with (go_at_call 26; with_reducible refine k1.mono ?_; rintro e w' ⟨rfl, rfl⟩)
    with_reducible refine k2.mono ?_
    rintro e w1 ⟨rfl, ⟨v', M1⟩, F1⟩
    have E : Hid (RK w1 S q N T A.tail ∧ Fr S w' w1) := ⟨⟨bo, bp, v', M1⟩, F1⟩
    clear M1 F1 k1 k2
    go_wp2
    go_ret2
    exact ⟨rfl, E.out⟩
  · rw [if_neg c', if_neg c']
    rw [show hasT T x = false by simpa using c'] at k1
    have E : Hid (RK w S q N T A ∧ Fr S w w) := ⟨⟨bo, bp, v, h⟩, Fr.refl _ _⟩
    clear h c c'
    go_enter Try.func17, Try.ntmps17
    go_wp2_with (go_at_call 26; with_reducible refine k1.mono ?_; rintro e w' ⟨rfl, rfl⟩)
    go_ret2
    exact ⟨rfl, E.out⟩
/-- What the document's Read tells: its own bytes, or none. -/
def Lent (S : Nat → Prop) (w' : World) (na : Option Addr) (n : Nat) (f : Nat → Nat) : Prop := (na = none ↔ n = 0) ∧ (0 < n → ∃ b, na = some ⟨b, 0, none⟩ ∧ S b ∧ BS w' b 0 n f)
theorem rread_any {w : World} {S : Nat → Prop} {q N : Nat} {T : Slots} {A : List Bool} (h : RK w S q N T A) (x : Int) :
    Calls Try.prog 17 #[.pointer (some ⟨q, 0, none⟩), .int .i64 x] w fun e w' => ∃ na cap, e = .returned (.tuple #[.slice na (rdN T A x) cap, .int .i64 (rdR T A x)]) ∧ Lent S w' na (rdN T A x) (rdF T x) ∧ RK w' S q N T (rdA T A x) ∧ Fr S w w' := by
  by_cases c : hasT T x = true ∧ A.headD false = false
  · have e1 : rdN T A x = 4096 := if_pos c
    have e2 : rdR T A x = 0 := by unfold rdR; rw [if_pos c.1, c.2]; rfl
    have e3 : rdA T A x = A.tail := if_pos c.1
    rw [e1, e2, e3]
    exact (rread_ok h x c.1 c.2).mono fun e w' ⟨b, cap, r1, r2, r3, r4⟩ => ⟨_, cap, r1, ⟨by simp, fun _ => ⟨b, rfl, r2, r3⟩⟩, r4⟩
  · have e1 : rdN T A x = 0 := if_neg c
    rw [e1]
    exact (rread_no h x c).mono fun e w' ⟨r1, r2⟩ => ⟨none, 0, r1, ⟨by simp, fun h => by omega⟩, r2⟩

end Go.Proofs.Ytcgfifihkbiioaa
