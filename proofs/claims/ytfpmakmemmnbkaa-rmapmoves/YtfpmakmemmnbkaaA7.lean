/- rmap: Has, List, Frames. -/
import Derived.Test.YtfpmakmemmnbkaaA6
namespace Go.Proofs.Ytfpmakmemmnbkaa
open Go.RowKit Go.Maps Go.Sort Go.Shelf
set_option maxRecDepth 10000

section
variable {w w' : World} {p : Nat} {U : Nat → Prop} {bm : Nat} {g : Int → Option Nat} {K : List Int} {T : List UC}
set_option maxHeartbeats 4000000 in
theorem mhas_any (h : RMp w p U bm g K T) (f : Int) (x : PLc) (hx : okU (f, x)) :
    Calls Try.prog 13 #[.pointer (some ⟨p, 0, none⟩), .int .i64 f, plV x] w fun e w' => e = .returned (.bool (decide ((f, x) ∈ T))) ∧ Kp w w' := by
  have e0 : decide (x ∈ usT T f) = decide ((f, x) ∈ T) := decide_eq_decide.2 usT_mem
  rw [← e0]
  obtain ⟨m, hm⟩ : ∃ m, m = g f := ⟨_, rfl⟩
  obtain ⟨w1, hw1⟩ : ∃ w1, w1 = w.alloc (.cells #[.int .i64 x.1, .int .u64 x.2] 31) := ⟨_, rfl⟩
  obtain ⟨bx, hbx⟩ : ∃ bx, bx = w.heap.size := ⟨_, rfl⟩
  have k1 : Kp w w1 := by rw [hw1]; exact (Kp.refl w).alloc _
  have hbr : w1.heap[bx]? = some (.cells #[.int .i64 x.1, .int .u64 x.2] 31 (0, 0)) := by rw [hw1, hbx]; exact heap_alloc_new w _
  have KS : Aside (∀ v, Kp w1 v → v.cell? ⟨p, 0, none⟩ = some (.map (some bm)) ∧ v.cell? ⟨bx, 0, none⟩ = some (.int .i64 x.1) ∧ v.cell? ⟨bx, 1, none⟩ = some (.int .u64 x.2) ∧ (Instr.lookup 49 (.map (some bm)) (.int .i64 f) false).run Try.prog v = .ok (.map m) v ∧ (Instr.lookup 53 (.map m) (.agg #[.int .i64 x.1, .int .u64 x.2]) true).run Try.prog v = .ok (.tuple #[.agg #[], .bool (decide (x ∈ usT T f))]) v) := fun v k => by
    have hv := h.kp (k1.trans k)
    have hr := (k.block bx (Array.getElem?_eq_some_iff.1 hbr).1).trans hbr
    refine ⟨hv.c0, ?_, ?_, ?_, ?_⟩
    · rw [cell_of_row _ _ 0 _ _ _ hr]; rfl
    · rw [cell_of_row _ _ 1 _ _ _ hr]; rfl
    · rw [hm]; exact hv.mu.look f hx.1
    · rw [hm]; exact (hv.psn f).look x hx.2
  have HK : Hid (Kp w w1) := k1
  generalize decide (x ∈ usT T f) = z at *
  obtain ⟨xg, xp⟩ := x
  unfold plV
  dsimp only at KS hw1 ⊢
  clear e0 h hm k1 hbr hx
  go_enter Try.func13, Try.ntmps13
  go_wp2_with fail
  rw [← hw1, ← hbx]
  clear hw1 hbx
  go_region_held3 (fun v => v.cell? ⟨p, 0, none⟩ = some (.map (some bm)) ∧ v.cell? ⟨bx, 0, none⟩ = some (.int .i64 xg) ∧ v.cell? ⟨bx, 1, none⟩ = some (.int .u64 xp) ∧ (Instr.lookup 49 (.map (some bm)) (.int .i64 f) false).run Try.prog v = .ok (.map m) v ∧ (Instr.lookup 53 (.map m) (.agg #[.int .i64 xg, .int .u64 xp]) true).run Try.prog v = .ok (.tuple #[.agg #[], .bool z]) v)
    (first | exact KS.out _ (Kp.refl _).drew | exact KS.out _ ((Kp.refl _).drew.alloc _) | exact KS.out _ ((Kp.refl _).alloc _).drew)
    (fail)
  all_goals
    clear KS
    go_wp2_with fail
    go_ret
    exact ⟨rfl, HK.out.trans (((Kp.refl _).alloc _).drew)⟩
set_option maxHeartbeats 2000000 in
theorem mlist_any (h : RMp w p U bm g K T) (f : Int) (hf : (Lit.int .i64 f).wf = true) (hl : T.length ≤ 2000000) :
    Calls Try.prog 11 #[.pointer (some ⟨p, 0, none⟩), .int .i64 f] w fun e w' => ∃ v, e = .returned v ∧ AX LTp w' w.heap.size v (srtP (usT T f)) ∧ Kp w w' := by
  have c0 := h.c0
  have l0 := h.mu.look f hf
  have k1 := keysfn_any (g f) w
  have k2 := sortedP_any (g f) w (h.psn f) (Nat.le_trans (usT_len T f) hl)
  generalize g f = m at *
  generalize srtP (usT T f) = L at *
  clear h hl hf
  go_enter Try.func11, Try.ntmps11
  go_wp2_with fail
  with_reducible refine k1.mono ?_
  rintro e w1 ⟨rfl, rfl⟩
  clear k1 c0 l0
  go_wp2_with fail
  with_reducible refine k2.mono ?_
  rintro e w2 ⟨v, rfl, a2, k2'⟩
  have H : Hid (AX LTp w2 w.heap.size v L ∧ Kp w w2) := ⟨a2, k2'⟩
  clear k2 a2 k2'
  go_wp2_with fail
  go_ret
  exact ⟨_, rfl, H.out⟩

/-! ### frames -/
def srtI (K : List Int) : List Int := K.mergeSort fun x y => decide (x ≤ y)
theorem srtI_perm (K : List Int) : (srtI K).Perm K := List.mergeSort_perm K _
theorem srtI_rise (K : List Int) : (srtI K).Pairwise fun x y => x ≤ y :=
  (List.pairwise_mergeSort (le := fun (x y : Int) => decide (x ≤ y)) (by intro a b c; simp; omega) (by intro a b; simp; omega) K).imp (by simp)
theorem srtI_of {L M : List Int} (p : L.Perm M) (h : L.Pairwise fun x y => x ≤ y) : L = srtI M :=
  (p.trans (srtI_perm M).symm).eq_of_pairwise (le := fun x y => x ≤ y) (fun a b _ _ h1 h2 => by omega) h (srtI_rise M)
theorem srtI_like {L M : List Int} (p : L.Perm M) : srtI L = srtI M := srtI_of ((srtI_perm L).trans p) (srtI_rise L)
/-- The frames that are used, each once. -/
def ddI : List Int → List Int
  | [] => []
  | x :: r => if x ∈ r then ddI r else x :: ddI r
theorem ddI_mem : ∀ {L : List Int} {x : Int}, x ∈ ddI L ↔ x ∈ L
  | [], x => by simp [ddI]
  | y :: r, x => by
    unfold ddI
    by_cases c : y ∈ r
    · rw [if_pos c, ddI_mem]
      constructor
      · exact fun h => by simp [h]
      · intro h
        rcases List.mem_cons.1 h with e | e
        · rw [e]; exact c
        · exact e
    · rw [if_neg c, List.mem_cons, List.mem_cons, ddI_mem]
theorem ddI_nodup : ∀ L : List Int, (ddI L).Nodup
  | [] => List.nodup_nil
  | y :: r => by
    unfold ddI
    by_cases c : y ∈ r
    · rw [if_pos c]; exact ddI_nodup r
    · rw [if_neg c]; exact List.nodup_cons.2 ⟨fun h => c (ddI_mem.1 h), ddI_nodup r⟩
def frT (T : List UC) : List Int := srtI (ddI (T.map (·.1)))
theorem RMp.keys (h : RMp w p U bm g K T) : K.Perm (ddI (T.map (·.1))) := by
  refine (List.perm_ext_iff_of_nodup h.mu.nd (ddI_nodup _)).2 fun x => ?_
  rw [ddI_mem, h.mu.mem, List.mem_map]
  constructor
  · intro hx
    obtain ⟨b, hb⟩ := Option.isSome_iff_exists.1 hx
    obtain ⟨_, _, _, _, hne⟩ := h.set x b hb
    obtain ⟨y, hy⟩ := List.exists_mem_of_ne_nil _ hne
    exact ⟨(x, y), usT_mem.1 hy, rfl⟩
  · rintro ⟨⟨a, y⟩, ht, rfl⟩
    cases e : g a with
    | none =>
      have := h.non a e
      have hm := usT_mem.2 ht
      rw [this] at hm
      cases hm
    | some b => rfl
theorem flatZ (L : List Int) : L.map encZ = L.flatMap LTi.enc := by
  induction L with
  | nil => rfl
  | cons x r ih => rw [List.map_cons, List.flatMap_cons, ih]; rfl
theorem sortsM (m : Nat) : AnyZI.SortsIn Try.prog Ytfpmakmemmnbkaa.lsorted_ren Fence.wide m :=
  ⟨fun blk off cap ss W hH hblk hsz => callsIn_wide.2 (AnyM.slices_Sort_int Ytfpmakmemmnbkaa.lsortM blk off cap ss W hH hblk hsz),
   fun p cap W => callsIn_wide.2 (AnyM.slices_Sort_int_none Ytfpmakmemmnbkaa.lsortM p cap W)⟩
set_option maxHeartbeats 2000000 in
theorem mframes_any (h : RMp w p U bm g K T) (hl : T.length ≤ 2000000) :
    Calls Try.prog 12 #[.pointer (some ⟨p, 0, none⟩)] w fun e w' => ∃ v, e = .returned v ∧ AX LTi w' w.heap.size v (frT T) ∧ Kp w w' := by
  have c0 := h.c0
  obtain ⟨D, h1, h2, h3, h4⟩ := h.mu.ex
  have hk := h.klen
  have pk := (keys_of h1 h2 h.mu.nd h.mu.mem).symm.trans h.keys
  have hbl := h1.lt
  have ka : Kp w (w.alloc (.cells #[.map (some bm)] 49)) := (Kp.refl w).alloc _
  have hseq : SeqGives Fence.wide 2 Try.prog 34 #[.pointer (some ⟨w.heap.size, 0, none⟩)] encZ (fun ss => ss.Perm (intKeys D)) (Maps.size D) (w.alloc (.cells #[.map (some bm)] 49)) :=
    AnyZI.keys_gives (ρ := Ytfpmakmemmnbkaa.lkeys_ren) { Ytfpmakmemmnbkaa.lkeys with } Fence.wide _ trivial rfl (by omega) w.heap.size bm K.length D _ (by simp) (by rw [cell_of_row _ _ 0 _ _ _ (heap_alloc_new w _)]; rfl) (by
      obtain ⟨es, clock, hb, Ft, hs, hD⟩ := h1
      exact ⟨es, clock, (Below.heap_alloc _ _ bm hbl).trans hb, Ft, hs, hD⟩)
  have cK : Calls Try.prog 25 #[.map (some bm)] w fun e w' => e = .returned (.func (.func 34) #[] #[.pointer (some ⟨w.heap.size, 0, none⟩)]) ∧ w' = w.alloc (.cells #[.map (some bm)] 49) :=
    (callsIn_wide (n := 5)).1 (AnyZI.keys_in Ytfpmakmemmnbkaa.lkeys Fence.wide 5 trivial rfl (some bm) w)
  have cS := AnyZI.sorted_in Ytfpmakmemmnbkaa.lsorted Fence.wide 5 trivial trivial trivial trivial rfl (by omega) (sortsM _) (enters_of Try.func33 (by kernel_rfl) rfl) 34 #[.pointer (some ⟨w.heap.size, 0, none⟩)] trivial (enters_of Try.func34 (by kernel_rfl) rfl) _ _ (by unfold maxLen; omega) (by omega) _ hseq
  have cS2 : Calls Try.prog 24 #[.func (.func 34) #[] #[.pointer (some ⟨w.heap.size, 0, none⟩)]] (w.alloc (.cells #[.map (some bm)] 49)) fun e w' => ∃ v, e = .returned v ∧ AX LTi w' w.heap.size v (frT T) ∧ Kp w w' := by
    refine ((callsIn_wide (n := 5)).1 cS).mono ?_
    rintro e w' ⟨v, ss, rfl, hS, hrow, hnil, hb⟩
    have es : ss.mergeSort (fun x y => decide (x ≤ y)) = frT T := srtI_like (hS.trans pk)
    have el : ss.length = (frT T).length := by rw [← es]; simp
    rw [es, flatZ, el] at hrow
    refine ⟨v, rfl, ⟨ownsRow_base_a hrow (Nat.zero_le _), fun i hi => ?_⟩, ka.trans hb⟩
    have := hrow.lt i hi
    exact ⟨Nat.le_trans ka.size this.1, this.2⟩
  generalize frT T = L at *
  clear cS hseq ka hbl pk hk h1 h2 h3 h4 h hl
  go_enter Try.func12, Try.ntmps12
  go_wp2_with fail
  with_reducible refine cK.mono ?_
  rintro e w1 ⟨rfl, rfl⟩
  clear cK c0
  go_wp2_with fail
  with_reducible refine cS2.mono ?_
  rintro e w2 ⟨v, rfl, a2, k2'⟩
  have H : Hid (AX LTi w2 w.heap.size v L ∧ Kp w w2) := ⟨a2, k2'⟩
  clear cS2 a2 k2'
  go_wp2_with fail
  go_ret
  exact ⟨_, rfl, H.out⟩
end

end Go.Proofs.Ytfpmakmemmnbkaa
