/- The document's memory: Set, Zero. -/
import Derived.Test.YtjnkmmfppkpgbaaDoorP19
namespace Go.Proofs.YtjnkmmfppkpgbaaDoor
open Go.RowKit Go.Maps
set_option maxRecDepth 10000

/-- The elements of other frames. -/
def others (x : Nat) (L : List (Nat × Nat)) : List (Nat × Nat) := L.filter fun p => decide (p.1 / 4096 ≠ x)
/-- The first i bytes of a page that are not 0. -/
def pageL (x : Nat) (f : Nat → Nat) : Nat → List (Nat × Nat)
  | 0 => []
  | i + 1 => if f i = 0 then pageL x f i else pageL x f i ++ [(x * 4096 + i, f i)]
theorem mem_pageL (x : Nat) (f : Nat → Nat) (p : Nat × Nat) : ∀ i, p ∈ pageL x f i ↔ ∃ j, j < i ∧ f j ≠ 0 ∧ p = (x * 4096 + j, f j)
  | 0 => by simp [pageL]
  | i + 1 => by
    unfold pageL
    by_cases e : f i = 0
    · rw [if_pos e, mem_pageL x f p i]
      constructor
      · rintro ⟨j, h1, h2⟩; exact ⟨j, by omega, h2⟩
      · rintro ⟨j, h1, h2, h3⟩
        exact ⟨j, by
          rcases Nat.lt_or_ge j i with h | h
          · exact h
          · have : j = i := by omega
            subst this; exact absurd e h2, h2, h3⟩
    · rw [if_neg e, List.mem_append, mem_pageL x f p i]
      constructor
      · rintro (⟨j, h1, h2⟩ | h)
        · exact ⟨j, by omega, h2⟩
        · exact ⟨i, by omega, e, by simpa using h⟩
      · rintro ⟨j, h1, h2, h3⟩
        rcases Nat.lt_or_ge j i with h | h
        · exact .inl ⟨j, h, h2, h3⟩
        · have : j = i := by omega
          subst this; exact .inr (by simp [h3])
theorem pageL_len (x : Nat) (f : Nat → Nat) : ∀ i, (pageL x f i).length ≤ i
  | 0 => Nat.le_refl _
  | i + 1 => by
    have := pageL_len x f i
    unfold pageL
    split
    · omega
    · rw [List.length_append]; simp; omega
theorem pageL_once (x : Nat) (f : Nat → Nat) : ∀ i, (pageL x f i).Pairwise (fun p q => p.1 ≠ q.1)
  | 0 => List.Pairwise.nil
  | i + 1 => by
    unfold pageL
    split
    · exact pageL_once x f i
    · refine List.pairwise_append.2 ⟨pageL_once x f i, by simp, fun p hp q hq => ?_⟩
      obtain ⟨j, h1, _, rfl⟩ := (mem_pageL x f p i).1 hp
      simp at hq; subst hq
      show x * 4096 + j ≠ x * 4096 + i
      omega
theorem good_page {N : Nat} {F : Nat → Nat → Nat} {L : List (Nat × Nat)} (G : Good N F L) (x : Nat) (f : Nat → Nat) (hx : x < N) (hf : Bytes f) : Good N (putFr F x f) (others x L ++ pageL x f 4096) := by
  have hm : ∀ p, p ∈ others x L ↔ p ∈ L ∧ p.1 / 4096 ≠ x := fun p => by unfold others; rw [List.mem_filter]; simp
  have hT : Tidy (N * 4096) (others x L ++ pageL x f 4096) := by
    refine ⟨List.pairwise_append.2 ⟨G.tidy.once.filter _, pageL_once x f 4096, fun p hp q hq => ?_⟩, fun p hp => ?_⟩
    · obtain ⟨j, h1, _, rfl⟩ := (mem_pageL x f q 4096).1 hq
      have := ((hm p).1 hp).2
      show p.1 ≠ x * 4096 + j
      omega
    · rcases List.mem_append.1 hp with hp | hp
      · exact G.tidy.some p ((hm p).1 hp).1
      · obtain ⟨j, h1, h2, rfl⟩ := (mem_pageL x f p 4096).1 hp
        exact ⟨by show x * 4096 + j < _; omega, h2, hf j⟩
  refine ⟨hT, fun y i hi => ?_⟩
  unfold putFr
  by_cases e : y = x
  · subst e
    rw [if_pos rfl]
    by_cases e0 : f i = 0
    · rw [e0]
      refine (lk_zero_iff hT _).2 (fun p hp e1 => ?_)
      rcases List.mem_append.1 hp with hp | hp
      · have := ((hm p).1 hp).2; omega
      · obtain ⟨j, h1, h2, rfl⟩ := (mem_pageL y f p 4096).1 hp
        have : j = i := by simp only at e1; omega
        subst this; exact h2 e0
    · exact lk_of_mem hT (List.mem_append.2 (.inr ((mem_pageL y f _ 4096).2 ⟨i, hi, e0, rfl⟩)))
  · rw [if_neg e, ← G.like y i hi]
    by_cases e0 : lk L (y * 4096 + i) = 0
    · rw [e0]
      refine (lk_zero_iff hT _).2 (fun p hp e1 => ?_)
      rcases List.mem_append.1 hp with hp | hp
      · exact (lk_zero_iff G.tidy _).1 e0 p ((hm p).1 hp).1 e1
      · obtain ⟨j, h1, h2, rfl⟩ := (mem_pageL x f p 4096).1 hp
        simp only at e1; omega
    · have hlt : ix L (y * 4096 + i) < L.length := by
        have := ix_le L (y * 4096 + i)
        by_cases hh : ix L (y * 4096 + i) < L.length
        · exact hh
        · exact absurd (lk_none L _ (by omega)) e0
      obtain ⟨p, h1, h2, h3⟩ := ix_hit L _ hlt
      have hp : p = (y * 4096 + i, lk L (y * 4096 + i)) := Prod.ext h2 h3
      refine lk_of_mem hT (List.mem_append.2 (.inl ((hm _).2 ⟨by rw [← hp]; exact List.mem_of_getElem? h1, ?_⟩)))
      show (y * 4096 + i) / 4096 ≠ x
      omega
theorem others_snoc (x : Nat) {L : List (Nat × Nat)} {i : Nat} {p : Nat × Nat} (hp : L[i]? = some p) : others x (L.take (i + 1)) = if p.1 / 4096 = x then others x (L.take i) else others x (L.take i) ++ [p] := by
  unfold others
  rw [take_snoc hp, List.filter_append]
  by_cases e : p.1 / 4096 = x
  · rw [if_pos e, List.filter_cons, if_neg (by simp [e])]; simp
  · rw [if_neg e, List.filter_cons, if_pos (by simp [e])]; simp
theorem others_len (x : Nat) (L : List (Nat × Nat)) : (others x L).length ≤ L.length := List.length_filter_le _ _

set_option maxHeartbeats 1000000 in
theorem rset_no {w : World} {T : Nat → Prop} {q N ops : Nat} {F : Nat → Nat → Nat} (h : RM w T q N ops F) (x : Int) (v : Value) (hx : hasF N x = false) :
    Calls Tryd.prog 56 #[.pointer (some ⟨q, 0, none⟩), .int .i64 x, v] w fun e w' => e = .returned (.int .i64 2) ∧ w' = w := by
  obtain ⟨na, cap, L, h, _⟩ := h
  have k1 := rhas_cell q N x w h.c0
  rw [hx] at k1
  clear h hx
  go_enter Tryd.func56, Tryd.ntmps56
  go_wp2_with (go_at_call 48; with_reducible refine k1.mono ?_; rintro e w' ⟨rfl, rfl⟩)
  go_ret
  exact ⟨rfl, rfl⟩
set_option maxHeartbeats 1000000 in
theorem rset_len {w : World} {T : Nat → Prop} {q N ops : Nat} {F : Nat → Nat → Nat} (h : RM w T q N ops F) (x : Int) (na : Option Addr) (n cap : Nat) (hx : hasF N x = true) (hn : n ≠ 4096) :
    Calls Tryd.prog 56 #[.pointer (some ⟨q, 0, none⟩), .int .i64 x, .slice na n cap] w fun e w' => e = .returned (.int .i64 1) ∧ w' = w := by
  obtain ⟨na0, cap0, L, h, _⟩ := h
  have k1 := rhas_cell q N x w h.c0
  rw [hx] at k1
  have z : ¬ (n : Int) = 4096 := by omega
  clear h hx hn
  go_enter Tryd.func56, Tryd.ntmps56
  go_wp2_with (go_at_call 48; with_reducible refine k1.mono ?_; rintro e w' ⟨rfl, rfl⟩)
  go_ret
  exact ⟨rfl, rfl⟩

/-- A list of one's own that is being made. -/
structure Mk (w wr : World) (na : Option Addr) (n cap : Nat) (M : List (Nat × Nat)) : Prop where
  len : n = M.length
  ol : OL encP 95 2 wr (.slice na n cap) M
  new : ∀ g, (Value.slice na n cap).ownBlock = some g → w.heap.size ≤ g
  kp : Kp w wr
theorem Mk.snoc {w wr : World} {na : Option Addr} {n cap : Nat} {M : List (Nat × Nat)} (h : Mk w wr na n cap M) (a b : Nat) (hl : M.length ≤ 7000000000) :
    ∃ na' cap' w', (Builtin.append_ #[60, 60] 60 #[.slice na n cap, .slice (some ⟨wr.heap.size, 0, none⟩) 1 1]).run Tryd.prog (wr.alloc (.cells #[.int .u64 (a : Nat), .int .u8 (b : Nat)] 95)) = .ok (.slice na' (n + 1) cap') w' ∧ Mk w w' na' (n + 1) cap' (M ++ [(a, b)]) := by
  have K1 : Kp wr (wr.alloc (.cells #[.int .u64 (a : Nat), .int .u8 (b : Nat)] 95)) := (Kp.refl wr).alloc _
  have O1 := h.ol.fr (K1.fr (fun _ => False)) (fun _ _ h => h)
  obtain ⟨na2, cap2, w2, r2, O3, g2, b2⟩ := pair_append O1 [(a, b)] (some ⟨wr.heap.size, 0, none⟩) 1 1 rfl (.inr ⟨wr.heap.size, 0, rfl, fun j u hu => by
    rw [Nat.zero_add, cell_of_row _ wr.heap.size j _ _ _ (heap_alloc_new wr _)]
    simpa [encP] using hu⟩) (by simp; omega) 60
  have el : (M ++ [(a, b)]).length = n + 1 := by rw [h.len]; simp
  rw [el] at r2 O3 b2
  refine ⟨na2, cap2, w2, r2, el.symm, O3, fun g hg => ?_, kp_grown (h.kp.trans K1) h.new g2⟩
  rcases b2 with b2 | b2
  · exact h.new g (by rw [← b2]; exact hg)
  · rw [hg] at b2; cases b2; exact Nat.le_trans h.kp.size K1.size

set_option maxHeartbeats 8000000 in
set_option maxRecDepth 100000 in
theorem rset_ok {w : World} {T : Nat → Prop} {q N ops : Nat} {F : Nat → Nat → Nat} (h : RM w T q N ops F) (x : Nat) (hx : x < N) (c o cap : Nat) (f : Nat → Nat) (hc : c < w.heap.size) (H : Cells w c o 4096 f) (hf : Bytes f) :
    Calls Tryd.prog 56 #[.pointer (some ⟨q, 0, none⟩), .int .i64 (x : Int), .slice (some ⟨c, o, none⟩) 4096 cap] w fun e w' => e = .returned (.int .i64 0) ∧ ∃ T', RM w' T' q N ops (putFr F x f) ∧ Fr T w w' ∧ Less T T' w := by
  obtain ⟨na, cap0, L, h, G⟩ := h
  have k1 := rhas_cell q N x w h.c0
  rw [(hasF_iff N x).2 (by omega)] at k1
  have hn2 := h.n2
  have hl := G.len h.n2
  have z0 : (L.length : Int) ≤ 4294967296 := by omega
  have z1 : (x : Int) < 1048576 := by omega
  have HH : Aside (RMat w T q N ops na cap0 L ∧ Good N F L ∧ x < N) := ⟨h, G, hx⟩
  have HC : Aside (c < w.heap.size ∧ Cells w c o 4096 f ∧ Bytes f) := ⟨hc, H, hf⟩
  clear h G hx hc H hf
  go_enter Tryd.func56, Tryd.ntmps56
  go_wp2_with (go_at_call 48; with_reducible refine k1.mono ?_; rintro e w' ⟨rfl, rfl⟩)
  clear k1
  go_loopg [7, 8] (L.length + 1) (fun g v7 v8 wr => ∃ (i : Nat) (na1 : Option Addr) (n1 cap1 : Nat), v7 = .slice na1 n1 cap1 ∧ v8 = .int .i64 (i : Int) ∧ i ≤ L.length ∧ L.length + 1 - i ≤ g ∧ Hid (Mk w' wr na1 n1 cap1 (others x (L.take i))))
  case atStart => exact ⟨0, none, 0, 0, rfl, rfl, by omega, by omega, ⟨rfl, OL.nil _ _, fun g hg => (by cases hg), Kp.refl _⟩⟩
  case round =>
    obtain ⟨i, na1, n1, cap1, rfl, rfl, h1, hg, HM⟩ := hrel
    have hm := HH.out.1.fr (HM.out.kp.fr (fun _ => False)) (fun _ _ => id)
    have c1 := hm.c1
    by_cases e : i < L.length
    · obtain ⟨p, hp⟩ : ∃ p, L[i]? = some p := ⟨_, List.getElem?_eq_getElem e⟩
      obtain ⟨g, rfl, d1, d2, _, hTg, _⟩ := hm.at_ hp
      have y1 : (i : Int) < L.length := by omega
      have y3 := (HH.out.2.1.tidy.some p (List.mem_of_getElem? hp))
      have y4 : (p.1 : Int) < 4294967296 := by omega
      have y5 : (p.2 : Int) < 256 := by omega
      have hs := others_snoc x hp
      by_cases c : p.1 / 4096 = x
      · have y2 : ((p.1 : Int) / 4096 == (x : Int)) = true := by rw [beq_iff_eq]; omega
        have y6 : ((p.1 : Int) / 4096 != (x : Int)) = false := by rw [bne_eq_false_iff_eq]; omega
        rw [if_pos c] at hs
        have HM2 : Hid (Mk w' wr na1 n1 cap1 (others x (L.take (i + 1)))) := by rw [hs]; exact HM
        clear c y3 HM hm hs hp
        generalize p.1 = u at *
        generalize p.2 = t at *
        go_wp2
        go_roundg (L.length + 1 - (i + 1))
        case measure => omega
        case rel => exact ⟨i + 1, na1, n1, cap1, rfl, by go_num, by omega, by omega, HM2⟩
      · have y2 : ((p.1 : Int) / 4096 == (x : Int)) = false := by rw [beq_eq_false_iff_ne]; omega
        have y6 : ((p.1 : Int) / 4096 != (x : Int)) = true := by rw [bne_iff_ne]; omega
        rw [if_neg c] at hs
        obtain ⟨na2, cap2, w2, r2, M2⟩ := HM.out.snoc p.1 p.2 (by have := others_len x (L.take i); rw [List.length_take] at this; omega)
        have HM2 : Hid (Mk w' w2 na2 (n1 + 1) cap2 (others x (L.take (i + 1)))) := by rw [hs]; exact M2
        clear c y3 HM hm hs hp M2
        generalize p.1 = u at *
        generalize p.2 = t at *
        repeat' (first | ((with_reducible refine wp_append_of r2 (.tmp 38) (.tmp 46) ?_ ?_ ?_ ?_ ?_); rfl; rfl; rfl; rfl) | go_values | go_skip | go_guarded | go_step | go_upon | go_back | (simp only []) | (go_values <;> (try go_simp)) | (go_ite <;> go_prune <;> (try go_simp)))
        go_roundg (L.length + 1 - (i + 1))
        case measure => omega
        case rel => exact ⟨i + 1, na2, n1 + 1, cap2, rfl, by go_num, by omega, by omega, HM2⟩
    · have ei : i = L.length := by omega
      subst ei
      rw [List.take_length] at HM
      have y1 : ¬ (L.length : Int) < L.length := by omega
      clear hm c1
      have hm := HH.out.1.fr (HM.out.kp.fr (fun _ => False)) (fun _ _ => id)
      have c1 := hm.c1
      clear hm
      go_wp2_with fail
      clear c1
      go_loopg [7, 9] 4097 (fun g v7 v9 wr => ∃ (i : Nat) (na2 : Option Addr) (n2 cap2 : Nat), v7 = .slice na2 n2 cap2 ∧ v9 = .int .i64 (i : Int) ∧ i ≤ 4096 ∧ 4097 - i ≤ g ∧ Hid (Mk w' wr na2 n2 cap2 (others x L ++ pageL x f i)))
      case atStart => exact ⟨0, na1, n1, cap1, rfl, rfl, by omega, by omega, (by rw [show pageL x f 0 = [] from rfl, List.append_nil]; exact HM)⟩
      case round =>
        clear HM
        obtain ⟨i, na2, n2, cap2, rfl, rfl, i1, ig, HM⟩ := hrel
        by_cases e4 : i < 4096
        · have d1 : wr.cell? ⟨c, o + i, none⟩ = some (.int .u8 (f i : Nat)) := by rw [HM.out.kp.cell (p := ⟨c, o + i, none⟩) HC.out.1]; exact HC.out.2.1 i e4
          have y2 : (i : Int) < 4096 := by omega
          have b1 := HC.out.2.2 i
          have y5 : (f i : Int) < 256 := by omega
          by_cases e0 : f i = 0
          · have HM2 : Hid (Mk w' wr na2 n2 cap2 (others x L ++ pageL x f (i + 1))) := by rw [show pageL x f (i + 1) = pageL x f i from if_pos e0]; exact HM
            have y6 : ((f i : Int) != 0) = false := by rw [bne_eq_false_iff_eq]; omega
            clear HM e0 b1
            generalize f i = t at *
            go_wp2
            go_roundg (4097 - (i + 1))
            case measure => omega
            case rel => exact ⟨i + 1, na2, n2, cap2, rfl, by go_num, by omega, by omega, HM2⟩
          · obtain ⟨A, hA⟩ : ∃ A, A = x * 4096 + i := ⟨_, rfl⟩
            have y7 : (x : Int) * 4096 + (i : Int) = (A : Int) := by omega
            obtain ⟨na3, cap3, w3, r3, M3⟩ := HM.out.snoc A (f i) (by have a1 := others_len x L; have a2 := pageL_len x f i; rw [List.length_append]; omega)
            have HM2 : Hid (Mk w' w3 na3 (n2 + 1) cap3 (others x L ++ pageL x f (i + 1))) := by
              rw [show pageL x f (i + 1) = pageL x f i ++ [(x * 4096 + i, f i)] from if_neg e0, ← hA, ← List.append_assoc]; exact M3
            have y6 : ((f i : Int) != 0) = true := by rw [bne_iff_ne]; omega
            clear HM e0 b1 M3 hA
            generalize f i = t at *
            repeat' (first | ((with_reducible refine wp_append_of r3 (.tmp 57) (.tmp 69) ?_ ?_ ?_ ?_ ?_); rfl; rfl; rfl; rfl) | go_values | go_skip | go_guarded | go_step | go_upon | go_back | (simp only []) | (go_values <;> (try go_simp)) | (go_ite <;> go_prune <;> (try go_simp)))
            go_roundg (4097 - (i + 1))
            case measure => omega
            case rel => exact ⟨i + 1, na3, n2 + 1, cap3, rfl, by go_num, by omega, by omega, HM2⟩
        · have e5 : i = 4096 := by omega
          subst e5
          have hm := HH.out.1.fr (HM.out.kp.fr (fun _ => False)) (fun _ _ => id)
          have c1 := hm.c1
          have f1 := hm.frz 1
          have RL := HH.out.1.relist (L' := others x L ++ pageL x f 4096) (na' := na2) (cap' := cap2) (HM.out.kp.fr (fun _ => False)) (fun _ _ h => h.elim) (by rw [← HM.out.len]; exact HM.out.ol) (fun g hg => .inr (HM.out.new g (by rw [HM.out.len]; exact hg)))
          rw [← HM.out.len] at RL
          have E : Hid (∃ T', RM (wr.setCell ⟨q, 1, none⟩ (.slice na2 n2 cap2)) T' q N ops (putFr F x f) ∧ Fr T w' (wr.setCell ⟨q, 1, none⟩ (.slice na2 n2 cap2)) ∧ Less T T' w') := ⟨_, ⟨_, _, _, RL.1, good_page HH.out.2.1 x f HH.out.2.2 HC.out.2.2⟩, RL.2.1, RL.2.2⟩
          clear RL hm HM
          go_wp2
          go_ret
          exact ⟨rfl, E.out⟩

/-! ### Zero -/
set_option maxHeartbeats 1000000 in
theorem rzero_no {w : World} {T : Nat → Prop} {q N ops : Nat} {F : Nat → Nat → Nat} (h : RM w T q N ops F) (x : Int) (hx : hasF N x = false) :
    Calls Tryd.prog 37 #[.pointer (some ⟨q, 0, none⟩), .int .i64 x] w fun e w' => e = .returned (.int .i64 2) ∧ Kp w w' := by
  have hmk := make_page w
  have kA : Kp w (w.alloc (.cells (bytesOf z0 4096).toArray 5)) := (Kp.refl w).alloc _
  have k1 := rset_no (h.kp kA) x (.slice (some ⟨w.heap.size, 0, none⟩) 4096 4096) hx
  have E : Hid (Kp w (w.alloc (.cells (bytesOf z0 4096).toArray 5))) := kA
  clear h hx kA
  generalize (bytesOf z0 4096).toArray = A at *
  go_enter Tryd.func37, Tryd.ntmps37
  go_wp2_with (go_at_call 56; with_reducible refine k1.mono ?_; rintro e w' ⟨rfl, rfl⟩)
  go_ret
  exact ⟨rfl, E.out⟩
set_option maxHeartbeats 1000000 in
theorem rzero_ok {w : World} {T : Nat → Prop} {q N ops : Nat} {F : Nat → Nat → Nat} (h : RM w T q N ops F) (x : Nat) (hx : x < N) :
    Calls Tryd.prog 37 #[.pointer (some ⟨q, 0, none⟩), .int .i64 (x : Int)] w fun e w' => e = .returned (.int .i64 0) ∧ ∃ T', RM w' T' q N ops (putFr F x z0) ∧ Fr T w w' ∧ Less T T' w := by
  have hmk := make_page w
  have kA : Kp w (w.alloc (.cells (bytesOf z0 4096).toArray 5)) := (Kp.refl w).alloc _
  have k1 : Calls Tryd.prog 56 #[.pointer (some ⟨q, 0, none⟩), .int .i64 (x : Int), .slice (some ⟨w.heap.size, 0, none⟩) 4096 4096] _ fun e w' => e = .returned (.int .i64 0) ∧ ∃ T', RM w' T' q N ops (putFr F x z0) ∧ Fr T w w' ∧ Less T T' w := (rset_ok (h.kp kA) x hx w.heap.size 0 4096 z0 (RB.made w 4096).lt ((RB.made w 4096).bs z0_byte).cells z0_byte).mono fun e w' ⟨e1, T', R1, F1, L1⟩ => ⟨e1, T', R1, (kA.fr T).trans F1, (Less.refl T w).trans L1 kA.size⟩
  clear h hx kA
  generalize (bytesOf z0 4096).toArray = A at *
  go_enter Tryd.func37, Tryd.ntmps37
  go_wp2_with fail
  with_reducible refine k1.mono ?_
  rintro e w1 ⟨rfl, E1⟩
  have E : Hid (∃ T', RM w1 T' q N ops (putFr F x z0) ∧ Fr T w w1 ∧ Less T T' w) := E1
  clear k1 E1
  go_wp2
  go_ret
  exact ⟨rfl, E.out⟩

end Go.Proofs.YtjnkmmfppkpgbaaDoor
