/- The document's memory: Clear, Get, Same. -/
import Derived.Test.YtndlkkacnpjlmaaP15
import Derived.Deep.RegionHeld3
namespace Go.Proofs.Ytndlkkacnpjlmaa
open Go.RowKit Go.Maps

theorem good_at {N : Nat} {F : Nat → Nat → Nat} {L : List (Nat × Nat)} (G : Good N F L) {p : Nat × Nat} (hp : p ∈ L) : F (p.1 / 4096) (p.1 % 4096) = p.2 ∧ p.2 ≠ 0 ∧ p.2 < 256 ∧ p.1 / 4096 < N := by
  obtain ⟨h1, h2, h3⟩ := G.tidy.some p hp
  refine ⟨?_, h2, h3, by omega⟩
  rw [← G.like (p.1 / 4096) (p.1 % 4096) (by omega), show p.1 / 4096 * 4096 + p.1 % 4096 = p.1 by omega]
  exact lk_mem G.tidy p hp
theorem good_none {N : Nat} {F : Nat → Nat → Nat} {L : List (Nat × Nat)} (G : Good N F L) (x : Nat) (h : ∀ p ∈ L, p.1 / 4096 ≠ x) : ∀ i, i < 4096 → F x i = 0 := fun i hi => by
  rw [← G.like x i hi]
  exact (lk_zero_iff G.tidy _).2 (fun p hp e => h p hp (by omega))

set_option maxHeartbeats 2000000 in
theorem rclear_nat {w : World} {T : Nat → Prop} {q N ops : Nat} {F : Nat → Nat → Nat} (h : RM w T q N ops F) (x : Nat) (hx : x < 9223372036854775808) :
    Calls Try.prog 21 #[.pointer (some ⟨q, 0, none⟩), .int .i64 (x : Int)] w fun e w' => e = .returned (.bool (clearF N F x)) ∧ w' = w := by
  obtain ⟨na, cap, L, h, G⟩ := h
  have c1 := h.c1
  have k1 := rhas_cell q N x w h.c0
  have hl := G.len h.n2
  have z0 : (L.length : Int) ≤ 4294967296 := by omega
  have z1 : (x : Int) < 9223372036854775808 := by omega
  have HH : Aside (RMat w T q N ops na cap L ∧ Good N F L) := ⟨h, G⟩
  obtain ⟨r, hr⟩ : ∃ r, r = clearF N F x := ⟨_, rfl⟩
  rw [← hr]
  have HR : Hid (r = clearF N F x) := hr
  clear h G hr
  go_enter Try.func21, Try.ntmps21
  go_wp2_with fail
  go_loopg [5] (L.length + 1) (fun g v5 wr => ∃ i : Nat, v5 = .int .i64 (i : Int) ∧ i ≤ L.length ∧ Hid (∀ j p, j < i → L[j]? = some p → p.1 / 4096 ≠ x) ∧ L.length + 1 - i ≤ g ∧ wr = w)
  case atStart => exact ⟨0, rfl, by omega, (show ∀ j p, j < 0 → L[j]? = some p → p.1 / 4096 ≠ x from fun j p hj => by omega), by omega, rfl⟩
  case round =>
    obtain ⟨i, rfl, h1, HJ, hg, rfl⟩ := hrel
    by_cases e : i < L.length
    · obtain ⟨p, hp⟩ : ∃ p, L[i]? = some p := ⟨_, List.getElem?_eq_getElem e⟩
      obtain ⟨g, rfl, d1, d2, _⟩ := HH.out.1.at_ hp
      have y1 : (i : Int) < L.length := by omega
      have y3 := (HH.out.2.tidy.some p (List.mem_of_getElem? hp)).1
      have y4 : (p.1 : Int) < 4294967296 := by have := HH.out.1.n2; omega
      clear y3
      by_cases c : p.1 / 4096 = x
      · have y2 : ((p.1 : Int) / 4096 == (x : Int)) = true := by rw [beq_iff_eq]; omega
        have HZ : Hid (r = false) := by
          have e1 : r = clearF N F x := HR.out
          obtain ⟨g1, g2, _, g4⟩ := good_at HH.out.2 (List.mem_of_getElem? hp)
          rw [c] at g1 g4
          show r = false
          rw [e1]; unfold clearF
          rw [show ((x : Int)).toNat = x from rfl, alike_not (f := F x) (g := Go.Proofs.Ytndlkkacnpjlmaa.z0) (i := p.1 % 4096) (by omega) (by rw [g1]; exact g2)]
          simp
        clear c
        generalize p.1 = u at *
        go_wp2
        go_ret
        exact ⟨by rw [HZ.out]; rfl, rfl⟩
      · have y2 : ((p.1 : Int) / 4096 == (x : Int)) = false := by rw [beq_eq_false_iff_ne]; omega
        have HJ2 : Hid (∀ j p, j < i + 1 → L[j]? = some p → p.1 / 4096 ≠ x) := (show ∀ j p, j < i + 1 → L[j]? = some p → p.1 / 4096 ≠ x from fun j p' hj hp' => by
          by_cases ej : j = i
          · subst ej; rw [hp] at hp'; cases hp'; exact c
          · exact HJ.out j p' (by omega) hp')
        clear c
        generalize p.1 = u at *
        go_wp2
        go_roundg (L.length + 1 - (i + 1))
        case measure => omega
        case rel => exact ⟨i + 1, by go_num, by omega, HJ2, by omega, rfl⟩
    · have y1 : ¬ (i : Int) < L.length := by omega
      have HZ : Hid (hasF N x = r) := by
        have e1 : r = clearF N F x := HR.out
        show hasF N x = r
        rw [e1]; unfold clearF
        rw [show ((x : Int)).toNat = x from rfl, alike_of (g := Go.Proofs.Ytndlkkacnpjlmaa.z0) (good_none HH.out.2 x (fun p hp => by
          obtain ⟨j, hj⟩ := List.getElem?_of_mem hp
          exact HJ.out j p (by have := (List.getElem?_eq_some_iff.1 hj).1; omega) hj))]
        simp
      go_wp2_with (go_at_call 36; with_reducible refine k1.mono ?_; rintro e w' ⟨rfl, rfl⟩)
      go_ret
      exact ⟨by rw [← HZ.out]; rfl, rfl⟩

set_option maxHeartbeats 2000000 in
theorem rclear_neg {w : World} {T : Nat → Prop} {q N ops : Nat} {F : Nat → Nat → Nat} (h : RM w T q N ops F) (x : Int) (hx : x < 0) (hw : (Lit.int .i64 x).wf = true) :
    Calls Try.prog 21 #[.pointer (some ⟨q, 0, none⟩), .int .i64 x] w fun e w' => e = .returned (.bool (clearF N F x)) ∧ w' = w := by
  obtain ⟨na, cap, L, h, G⟩ := h
  have c1 := h.c1
  have k1 := rhas_cell q N x w h.c0
  rw [show hasF N x = false from by cases e : hasF N x; rfl; have := (hasF_iff N x).1 e; omega] at k1
  rw [show clearF N F x = false from by unfold clearF; rw [show hasF N x = false from by cases e : hasF N x; rfl; have := (hasF_iff N x).1 e; omega]; rfl]
  have hl := G.len h.n2
  have z0 : (L.length : Int) ≤ 4294967296 := by omega
  have hwi := wf_int hw
  obtain ⟨u, hu, hu2⟩ : ∃ u : Nat, IntKind.u64.wrap x = (u : Int) ∧ 9223372036854775808 ≤ u := ⟨(x + 18446744073709551616).toNat, by simp [IntKind.wrap, IntKind.bits, IntKind.signed]; omega, by omega⟩
  have z1 : (9223372036854775808 : Int) ≤ u := by omega
  have HH : Aside (RMat w T q N ops na cap L ∧ Good N F L) := ⟨h, G⟩
  clear h G hx hw hwi hu2
  go_enter Try.func21, Try.ntmps21
  go_wp2_with fail
  go_loopg [5] (L.length + 1) (fun g v5 wr => ∃ i : Nat, v5 = .int .i64 (i : Int) ∧ i ≤ L.length ∧ L.length + 1 - i ≤ g ∧ wr = w)
  case atStart => exact ⟨0, rfl, by omega, by omega, rfl⟩
  case round =>
    obtain ⟨i, rfl, h1, hg, rfl⟩ := hrel
    by_cases e : i < L.length
    · obtain ⟨p, hp⟩ : ∃ p, L[i]? = some p := ⟨_, List.getElem?_eq_getElem e⟩
      obtain ⟨g, rfl, d1, d2, _⟩ := HH.out.1.at_ hp
      have y1 : (i : Int) < L.length := by omega
      have y3 := (HH.out.2.tidy.some p (List.mem_of_getElem? hp)).1
      have y4 : (p.1 : Int) < 4294967296 := by have := HH.out.1.n2; omega
      have y2 : ((p.1 : Int) / 4096 == (u : Int)) = false := by rw [beq_eq_false_iff_ne]; omega
      clear y3
      generalize p.1 = t at *
      go_wp2
      go_roundg (L.length + 1 - (i + 1))
      case measure => omega
      case rel => exact ⟨i + 1, by go_num, by omega, by omega, rfl⟩
    · have y1 : ¬ (i : Int) < L.length := by omega
      go_wp2_with (go_at_call 36; with_reducible refine k1.mono ?_; rintro e w' ⟨rfl, rfl⟩)
      go_ret
      exact ⟨rfl, rfl⟩

theorem rclear_any {w : World} {T : Nat → Prop} {q N ops : Nat} {F : Nat → Nat → Nat} (h : RM w T q N ops F) (x : Int) (hw : (Lit.int .i64 x).wf = true) :
    Calls Try.prog 21 #[.pointer (some ⟨q, 0, none⟩), .int .i64 x] w fun e w' => e = .returned (.bool (clearF N F x)) ∧ w' = w := by
  have hwi := wf_int hw
  by_cases c : x < 0
  · exact rclear_neg h x c hw
  · obtain ⟨n, rfl⟩ : ∃ n : Nat, x = (n : Int) := ⟨x.toNat, by omega⟩
    exact rclear_nat h n (by omega)

/-! ### Get -/
set_option maxHeartbeats 1000000 in
theorem rget_no {w : World} {T : Nat → Prop} {q N ops : Nat} {F : Nat → Nat → Nat} (h : RM w T q N ops F) (x : Int) (hx : hasF N x = false) :
    Calls Try.prog 19 #[.pointer (some ⟨q, 0, none⟩), .int .i64 x] w fun e w' => e = .returned (.tuple #[.slice none 0 0, .int .i64 2]) ∧ w' = w := by
  obtain ⟨na, cap, L, h, G⟩ := h
  have k1 := rhas_cell q N x w h.c0
  rw [hx] at k1
  clear h G hx
  go_enter Try.func19, Try.ntmps19
  go_wp2_with (go_at_call 36; with_reducible refine k1.mono ?_; rintro e w' ⟨rfl, rfl⟩)
  go_ret2
  exact ⟨rfl, rfl⟩

/-- What lies in the page behind i elements. -/
def gotF (L : List (Nat × Nat)) (x i : Nat) : Nat → Nat := fun k => lk (L.take i) (x * 4096 + k)
theorem Tidy.take {E : Nat} {L : List (Nat × Nat)} (h : Tidy E L) (i : Nat) : Tidy E (L.take i) := ⟨h.once.sublist (List.take_sublist _ _), fun p hp => h.some p ((List.take_sublist _ _).mem hp)⟩
theorem take_snoc {L : List (Nat × Nat)} {i : Nat} {p : Nat × Nat} (hp : L[i]? = some p) : L.take (i + 1) = L.take i ++ [p] := by
  rw [List.take_add_one, hp]; rfl
theorem lk_miss {p : Nat × Nat} {a : Nat} (h : p.1 ≠ a) : lk [p] a = 0 := by rw [lk_cons, if_neg h]; rfl
theorem gotF_skip {E : Nat} {L : List (Nat × Nat)} (h : Tidy E L) {x i : Nat} {p : Nat × Nat} (hp : L[i]? = some p) (hx : p.1 / 4096 ≠ x) : ∀ k, k < 4096 → gotF L x (i + 1) k = gotF L x i k := fun k hk => by
  unfold gotF
  rw [take_snoc hp, lk_append _ _ _ (fun r hr _ => ((h.take i).some r hr).2.1), lk_miss (by omega)]
  split
  · rename_i e; exact e.symm
  · rfl
theorem gotF_hit {E : Nat} {L : List (Nat × Nat)} (h : Tidy E L) {x i : Nat} {p : Nat × Nat} (hp : L[i]? = some p) (hx : p.1 / 4096 = x) : ∀ k, k < 4096 → gotF L x (i + 1) k = upd (gotF L x i) (p.1 % 4096) p.2 k := fun k hk => by
  unfold upd
  have hT := h.take (i + 1)
  rw [take_snoc hp] at hT
  by_cases e : k = p.1 % 4096
  · rw [if_pos e]
    unfold gotF
    rw [take_snoc hp, show x * 4096 + k = p.1 by omega]
    exact lk_mem hT p (by simp)
  · rw [if_neg e]
    unfold gotF
    rw [take_snoc hp, lk_append _ _ _ (fun r hr _ => ((h.take i).some r hr).2.1), lk_miss (by omega)]
    split
    · rename_i e0; exact e0.symm
    · rfl
theorem gotF_byte {E : Nat} {L : List (Nat × Nat)} (h : Tidy E L) (x i : Nat) : Bytes (gotF L x i) := fun _ => lk_lt (h.take i) _

set_option maxHeartbeats 4000000 in
set_option maxRecDepth 10000 in
theorem rget_ok {w : World} {T : Nat → Prop} {q N ops : Nat} {F : Nat → Nat → Nat} (h : RM w T q N ops F) (x : Nat) (hx : x < N) (hF : Bytes (F x)) :
    Calls Try.prog 19 #[.pointer (some ⟨q, 0, none⟩), .int .i64 (x : Int)] w fun e w' => e = .returned (.tuple #[.slice (some ⟨w.heap.size, 0, none⟩) 4096 4096, .int .i64 0]) ∧ BS w' w.heap.size 0 4096 (F x) ∧ Kp w w' := by
  obtain ⟨na, cap, L, h, G⟩ := h
  have k1 := rhas_cell q N x w h.c0
  rw [(hasF_iff N x).2 (by omega)] at k1
  have hmk := make_page
  have R0 : Hid (BS (w.alloc (.cells (bytesOf Go.Proofs.Ytndlkkacnpjlmaa.z0 4096).toArray 5)) w.heap.size 0 4096 Go.Proofs.Ytndlkkacnpjlmaa.z0) := (RB.made w 4096).bs z0_byte
  have hl := G.len h.n2
  have z0 : (L.length : Int) ≤ 4294967296 := by omega
  have z1 : (x : Int) < 1048576 := by have := h.n2; omega
  have HH : Aside (RMat w T q N ops na cap L ∧ Good N F L ∧ x < N) := ⟨h, G, hx⟩
  have HF : Hid (Bytes (F x)) := hF
  clear h G hx hF
  generalize (bytesOf Go.Proofs.Ytndlkkacnpjlmaa.z0 4096).toArray = A at *
  go_enter Try.func19, Try.ntmps19
  go_wp2_with (go_at_call 36; with_reducible refine k1.mono ?_; rintro e w' ⟨rfl, rfl⟩)
  clear hmk k1
  go_loopg [7] (L.length + 1) (fun g v7 wr => ∃ i : Nat, v7 = .int .i64 (i : Int) ∧ i ≤ L.length ∧ L.length + 1 - i ≤ g ∧ Hid (BS wr w'.heap.size 0 4096 (gotF L x i)) ∧ Hid (Kp w' wr))
  case atStart => exact ⟨0, rfl, by omega, by omega, (R0.out.like (fun _ _ => rfl) (fun _ => by show 0 < 256; decide)), (Kp.refl _).alloc _⟩
  case round =>
    clear R0
    obtain ⟨i, rfl, h1, hg, HB, HK⟩ := hrel
    have hm := HH.out.1.fr (HK.out.fr (fun _ => False)) (fun _ _ => id)
    have c1 := hm.c1
    by_cases e : i < L.length
    · obtain ⟨p, hp⟩ : ∃ p, L[i]? = some p := ⟨_, List.getElem?_eq_getElem e⟩
      obtain ⟨g, rfl, d1, d2, _, hTg, _⟩ := hm.at_ hp
      have y1 : (i : Int) < L.length := by omega
      have y3 := (HH.out.2.1.tidy.some p (List.mem_of_getElem? hp))
      have y4 : (p.1 : Int) < 4294967296 := by have := HH.out.1.n2; omega
      by_cases c : p.1 / 4096 = x
      · have y2 : ((p.1 : Int) / 4096 == (x : Int)) = true := by rw [beq_iff_eq]; omega
        obtain ⟨j, hj⟩ : ∃ j, j = p.1 % 4096 := ⟨_, rfl⟩
        have y5 : (p.1 : Int) % 4096 = (j : Int) := by omega
        have y6 : (j : Int) < 4096 := by omega
        have k1 := HB.out.cell j (by omega)
        have k2 := HB.out.frz j (by omega)
        have H2 := (HB.out.set j p.2 (by omega) y3.2.2).kp (Kp.refl _).drew
        have K2 := (HK.out.set ⟨w'.heap.size, 0 + j, none⟩ (.int .u8 (p.2 : Nat)) (Nat.le_refl _)).drew
        have hbe : ∀ k, k < 4096 → gotF L x (i + 1) k = upd (gotF L x i) j p.2 k := by rw [hj]; exact gotF_hit HH.out.2.1.tidy hp c
        rw [Nat.zero_add] at k1 k2 H2 K2
        have HB2 : Hid _ := H2.like hbe (gotF_byte HH.out.2.1.tidy x (i + 1))
        have HK2 : Hid (Kp w' _) := K2
        clear c y3 HB HK hm H2 K2 hbe hj hp
        generalize gotF L x i j = b0 at k1
        generalize p.1 = u at *
        generalize p.2 = t at *
        go_wp2_with fail
        go_region
        go_wp2
        go_roundg (L.length + 1 - (i + 1))
        case measure => omega
        case rel => exact ⟨i + 1, by go_num, by omega, by omega, HB2, HK2⟩
      · have y2 : ((p.1 : Int) / 4096 == (x : Int)) = false := by rw [beq_eq_false_iff_ne]; omega
        have HB2 : Hid (BS wr w'.heap.size 0 4096 (gotF L x (i + 1))) := HB.out.like (gotF_skip HH.out.2.1.tidy hp c) (gotF_byte HH.out.2.1.tidy x (i + 1))
        clear c y3 HB hm
        generalize p.1 = u at *
        go_wp2
        go_roundg (L.length + 1 - (i + 1))
        case measure => omega
        case rel => exact ⟨i + 1, by go_num, by omega, by omega, HB2, HK⟩
    · have ei : i = L.length := by omega
      subst ei
      have y1 : ¬ (L.length : Int) < L.length := by omega
      have HB2 : Hid (BS wr w'.heap.size 0 4096 (F x)) := HB.out.like (fun k hk => by
        unfold gotF; rw [List.take_length]; exact (HH.out.2.1.like x k hk).symm) HF.out
      clear hm
      go_wp2
      go_ret2
      exact ⟨rfl, HB2.out, HK.out⟩

end Go.Proofs.Ytndlkkacnpjlmaa
