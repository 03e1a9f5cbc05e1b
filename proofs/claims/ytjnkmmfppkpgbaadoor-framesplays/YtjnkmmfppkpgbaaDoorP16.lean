/- The document's memory: Clear, Get, Same. -/
import Derived.Test.YtjnkmmfppkpgbaaDoorP15
import Derived.Deep.RegionHeld3
namespace Go.Proofs.YtjnkmmfppkpgbaaDoor
open Go.RowKit Go.Maps
set_option maxRecDepth 10000

theorem good_at {N : Nat} {F : Nat → Nat → Nat} {L : List (Nat × Nat)} (G : Good N F L) {p : Nat × Nat} (hp : p ∈ L) : F (p.1 / 4096) (p.1 % 4096) = p.2 ∧ p.2 ≠ 0 ∧ p.2 < 256 ∧ p.1 / 4096 < N := by
  obtain ⟨h1, h2, h3⟩ := G.tidy.some p hp
  refine ⟨?_, h2, h3, by omega⟩
  rw [← G.like (p.1 / 4096) (p.1 % 4096) (by omega), show p.1 / 4096 * 4096 + p.1 % 4096 = p.1 by omega]
  exact lk_mem G.tidy p hp
theorem good_none {N : Nat} {F : Nat → Nat → Nat} {L : List (Nat × Nat)} (G : Good N F L) (x : Nat) (h : ∀ p ∈ L, p.1 / 4096 ≠ x) : ∀ i, i < 4096 → F x i = 0 := fun i hi => by
  rw [← G.like x i hi]
  exact (lk_zero_iff G.tidy _).2 (fun p hp e => h p hp (by omega))

set_option maxHeartbeats 2000000 in
theorem rclear_nat {w : World} {T : Nat → Prop} {q N ops : Nat} {F : Nat → Nat → Nat} (h : RM w T q N ops F) (x : Nat) (hx : x < 9223372036854775808) :
    Calls Tryd.prog 29 #[.pointer (some ⟨q, 0, none⟩), .int .i64 (x : Int)] w fun e w' => e = .returned (.bool (clearF N F x)) ∧ w' = w := by
  obtain ⟨na, cap, L, h, G⟩ := h
  have c1 := h.c1
  have k1 := rhas_cell q N x w h.c0
  have hl := G.len h.n2
  have z0 : (L.length : Int) ≤ 4294967296 := by omega
  have z1 : (x : Int) < 9223372036854775808 := by omega
  have HH : Aside (RMat w T q N ops na cap L ∧ Good N F L) := ⟨h, G⟩
  obtain ⟨r, hr⟩ : ∃ r, r = clearF N F x := ⟨_, rfl⟩
  rw [← hr]
  have HR : Hid (r = clearF N F x) := hr
  clear h G hr
  go_enter Tryd.func29, Tryd.ntmps29
  go_wp2_with fail
  go_loopg [5] (L.length + 1) (fun g v5 wr => ∃ i : Nat, v5 = .int .i64 (i : Int) ∧ i ≤ L.length ∧ Hid (∀ j p, j < i → L[j]? = some p → p.1 / 4096 ≠ x) ∧ L.length + 1 - i ≤ g ∧ wr = w)
  case atStart => exact ⟨0, rfl, by omega, (show ∀ j p, j < 0 → L[j]? = some p → p.1 / 4096 ≠ x from fun j p hj => by omega), by omega, rfl⟩
  case round =>
    obtain ⟨i, rfl, h1, HJ, hg, rfl⟩ := hrel
    by_cases e : i < L.length
    · obtain ⟨p, hp⟩ : ∃ p, L[i]? = some p := ⟨_, List.getElem?_eq_getElem e⟩
      obtain ⟨g, rfl, d1, d2, _⟩ := HH.out.1.at_ hp
      have y1 : (i : Int) < L.length := by omega
      have y3 := (HH.out.2.tidy.some p (List.mem_of_getElem? hp)).1
      have y4 : (p.1 : Int) < 4294967296 := by have := HH.out.1.n2; omega
      clear y3
      by_cases c : p.1 / 4096 = x
      · have y2 : ((p.1 : Int) / 4096 == (x : Int)) = true := by rw [beq_iff_eq]; omega
        have HZ : Hid (r = false) := by
          have e1 : r = clearF N F x := HR.out
          obtain ⟨g1, g2, _, g4⟩ := good_at HH.out.2 (List.mem_of_getElem? hp)
          rw [c] at g1 g4
          show r = false
          rw [e1]; unfold clearF
          rw [show ((x : Int)).toNat = x from rfl, alike_not (f := F x) (g := Go.Proofs.YtjnkmmfppkpgbaaDoor.z0) (i := p.1 % 4096) (by omega) (by rw [g1]; exact g2)]
          simp
        clear c
        generalize p.1 = u at *
        go_wp2
        go_ret
        exact ⟨by rw [HZ.out]; rfl, rfl⟩
      · have y2 : ((p.1 : Int) / 4096 == (x : Int)) = false := by rw [beq_eq_false_iff_ne]; omega
        have HJ2 : Hid (∀ j p, j < i + 1 → L[j]? = some p → p.1 / 4096 ≠ x) := (show ∀ j p, j < i + 1 → L[j]? = some p → p.1 / 4096 ≠ x from fun j p' hj hp' => by
          by_cases ej : j = i
          · subst ej; rw [hp] at hp'; cases hp'; exact c
          · exact HJ.out j p' (by omega) hp')
        clear c
        generalize p.1 = u at *
        go_wp2
        go_roundg (L.length + 1 - (i + 1))
        case measure => omega
        case rel => exact ⟨i + 1, by go_num, by omega, HJ2, by omega, rfl⟩
    · have y1 : ¬ (i : Int) < L.length := by omega
      have HZ : Hid (hasF N x = r) := by
        have e1 : r = clearF N F x := HR.out
        show hasF N x = r
        rw [e1]; unfold clearF
        rw [show ((x : Int)).toNat = x from rfl, alike_of (g := Go.Proofs.YtjnkmmfppkpgbaaDoor.z0) (good_none HH.out.2 x (fun p hp => by
          obtain ⟨j, hj⟩ := List.getElem?_of_mem hp
          exact HJ.out j p (by have := (List.getElem?_eq_some_iff.1 hj).1; omega) hj))]
        simp
      go_wp2_with (go_at_call 48; with_reducible refine k1.mono ?_; rintro e w' ⟨rfl, rfl⟩)
      go_ret
      exact ⟨by rw [← HZ.out]; rfl, rfl⟩

set_option maxHeartbeats 2000000 in
theorem rclear_neg {w : World} {T : Nat → Prop} {q N ops : Nat} {F : Nat → Nat → Nat} (h : RM w T q N ops F) (x : Int) (hx : x < 0) (hw : (Lit.int .i64 x).wf = true) :
    Calls Tryd.prog 29 #[.pointer (some ⟨q, 0, none⟩), .int .i64 x] w fun e w' => e = .returned (.bool (clearF N F x)) ∧ w' = w := by
  obtain ⟨na, cap, L, h, G⟩ := h
  have c1 := h.c1
  have k1 := rhas_cell q N x w h.c0
  rw [show hasF N x = false from by cases e : hasF N x; rfl; have := (hasF_iff N x).1 e; omega] at k1
  rw [show clearF N F x = false from by unfold clearF; rw [show hasF N x = false from by cases e : hasF N x; rfl; have := (hasF_iff N x).1 e; omega]; rfl]
  have hl := G.len h.n2
  have z0 : (L.length : Int) ≤ 4294967296 := by omega
  have hwi := wf_int hw
  obtain ⟨u, hu, hu2⟩ : ∃ u : Nat, IntKind.u64.wrap x = (u : Int) ∧ 9223372036854775808 ≤ u := ⟨(x + 18446744073709551616).toNat, by simp [IntKind.wrap, IntKind.bits, IntKind.signed]; omega, by omega⟩
  have z1 : (9223372036854775808 : Int) ≤ u := by omega
  have HH : Aside (RMat w T q N ops na cap L ∧ Good N F L) := ⟨h, G⟩
  clear h G hx hw hwi hu2
  go_enter Tryd.func29, Tryd.ntmps29
  go_wp2_with fail
  go_loopg [5] (L.length + 1) (fun g v5 wr => ∃ i : Nat, v5 = .int .i64 (i : Int) ∧ i ≤ L.length ∧ L.length + 1 - i ≤ g ∧ wr = w)
  case atStart => exact ⟨0, rfl, by omega, by omega, rfl⟩
  case round =>
    obtain ⟨i, rfl, h1, hg, rfl⟩ := hrel
    by_cases e : i < L.length
    · obtain ⟨p, hp⟩ : ∃ p, L[i]? = some p := ⟨_, List.getElem?_eq_getElem e⟩
      obtain ⟨g, rfl, d1, d2, _⟩ := HH.out.1.at_ hp
      have y1 : (i : Int) < L.length := by omega
      have y3 := (HH.out.2.tidy.some p (List.mem_of_getElem? hp)).1
      have y4 : (p.1 : Int) < 4294967296 := by have := HH.out.1.n2; omega
      have y2 : ((p.1 : Int) / 4096 == (u : Int)) = false := by rw [beq_eq_false_iff_ne]; omega
      clear y3
      generalize p.1 = t at *
      go_wp2
      go_roundg (L.length + 1 - (i + 1))
      case measure => omega
      case rel => exact ⟨i + 1, by go_num, by omega, by omega, rfl⟩
    · have y1 : ¬ (i : Int) < L.length := by omega
      go_wp2_with (go_at_call 48; with_reducible refine k1.mono ?_; rintro e w' ⟨rfl, rfl⟩)
      go_ret
      exact ⟨rfl, rfl⟩

theorem rclear_any {w : World} {T : Nat → Prop} {q N ops : Nat} {F : Nat → Nat → Nat} (h : RM w T q N ops F) (x : Int) (hw : (Lit.int .i64 x).wf = true) :
    Calls Tryd.prog 29 #[.pointer (some ⟨q, 0, none⟩), .int .i64 x] w fun e w' => e = .returned (.bool (clearF N F x)) ∧ w' = w := by
  have hwi := wf_int hw
  by_cases c : x < 0
  · exact rclear_neg h x c hw
  · obtain ⟨n, rfl⟩ : ∃ n : Nat, x = (n : Int) := ⟨x.toNat, by omega⟩
    exact rclear_nat h n (by omega)

/-- What lies in the page behind i elements. -/
def gotF (L : List (Nat × Nat)) (x i : Nat) : Nat → Nat := fun k => lk (L.take i) (x * 4096 + k)
theorem Tidy.take {E : Nat} {L : List (Nat × Nat)} (h : Tidy E L) (i : Nat) : Tidy E (L.take i) := ⟨h.once.sublist (List.take_sublist _ _), fun p hp => h.some p ((List.take_sublist _ _).mem hp)⟩
theorem take_snoc {L : List (Nat × Nat)} {i : Nat} {p : Nat × Nat} (hp : L[i]? = some p) : L.take (i + 1) = L.take i ++ [p] := by
  rw [List.take_add_one, hp]; rfl
theorem lk_miss {p : Nat × Nat} {a : Nat} (h : p.1 ≠ a) : lk [p] a = 0 := by rw [lk_cons, if_neg h]; rfl
theorem gotF_skip {E : Nat} {L : List (Nat × Nat)} (h : Tidy E L) {x i : Nat} {p : Nat × Nat} (hp : L[i]? = some p) (hx : p.1 / 4096 ≠ x) : ∀ k, k < 4096 → gotF L x (i + 1) k = gotF L x i k := fun k hk => by
  unfold gotF
  rw [take_snoc hp, lk_append _ _ _ (fun r hr _ => ((h.take i).some r hr).2.1), lk_miss (by omega)]
  split
  · rename_i e; exact e.symm
  · rfl
theorem gotF_hit {E : Nat} {L : List (Nat × Nat)} (h : Tidy E L) {x i : Nat} {p : Nat × Nat} (hp : L[i]? = some p) (hx : p.1 / 4096 = x) : ∀ k, k < 4096 → gotF L x (i + 1) k = upd (gotF L x i) (p.1 % 4096) p.2 k := fun k hk => by
  unfold upd
  have hT := h.take (i + 1)
  rw [take_snoc hp] at hT
  by_cases e : k = p.1 % 4096
  · rw [if_pos e]
    unfold gotF
    rw [take_snoc hp, show x * 4096 + k = p.1 by omega]
    exact lk_mem hT p (by simp)
  · rw [if_neg e]
    unfold gotF
    rw [take_snoc hp, lk_append _ _ _ (fun r hr _ => ((h.take i).some r hr).2.1), lk_miss (by omega)]
    split
    · rename_i e0; exact e0.symm
    · rfl
theorem gotF_byte {E : Nat} {L : List (Nat × Nat)} (h : Tidy E L) (x i : Nat) : Bytes (gotF L x i) := fun _ => lk_lt (h.take i) _

end Go.Proofs.YtjnkmmfppkpgbaaDoor
