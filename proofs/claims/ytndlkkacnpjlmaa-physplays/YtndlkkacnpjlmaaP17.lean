/- The document's memory: Same. -/
import Derived.Test.YtndlkkacnpjlmaaP16
namespace Go.Proofs.Ytndlkkacnpjlmaa
open Go.RowKit Go.Maps

theorem strOf_succ (f : Nat → Nat) (n : Nat) : strOf f (n + 1) = (strOf f n).push (UInt8.ofNat (f n)) := by
  unfold strOf
  rw [List.range_succ, List.map_append, List.foldl_append]
  rfl
theorem strOf_data (f : Nat → Nat) : ∀ n, (strOf f n).data.toList = (List.range n).map fun i => UInt8.ofNat (f i)
  | 0 => rfl
  | n + 1 => by
    rw [strOf_succ, List.range_succ, List.map_append, ← strOf_data f n]
    simp [ByteArray.push]
theorem strOf_inj {f g : Nat → Nat} {n : Nat} (hf : Bytes f) (hg : Bytes g) (h : strOf f n = strOf g n) : ∀ i, i < n → f i = g i := fun i hi => by
  have e : (List.range n).map (fun i => UInt8.ofNat (f i)) = (List.range n).map (fun i => UInt8.ofNat (g i)) := by rw [← strOf_data, ← strOf_data, h]
  have e2 := congrArg (fun l => l[i]?) e
  simp [hi] at e2
  have e3 := congrArg UInt8.toNat e2
  simp at e3
  have := hf i
  have := hg i
  omega
theorem strOf_eq {f g : Nat → Nat} {n : Nat} (hf : Bytes f) (hg : Bytes g) : ((strOf f n).toList == (strOf g n).toList) = alike f g n := by
  cases e : alike f g n
  · rw [beq_eq_false_iff_ne]
    intro h
    rw [ByteArray.toList_eq, ByteArray.toList_eq] at h
    have h2 : strOf f n = strOf g n := by
      have : (strOf f n).data = (strOf g n).data := Array.ext' h
      cases hx : strOf f n
      cases hy : strOf g n
      rw [hx, hy] at this
      congr
    rw [alike_of (strOf_inj hf hg h2)] at e
    cases e
  · rw [strOf_like ((alike_iff f g n).1 e)]
    exact beq_self_eq_true _

set_option maxHeartbeats 2000000 in
theorem rsame_any {w : World} {T : Nat → Prop} {q N ops : Nat} {F : Nat → Nat → Nat} (h : RM w T q N ops F) (hF : ∀ x, Bytes (F x)) (x y : Int) :
    Calls Try.prog 23 #[.pointer (some ⟨q, 0, none⟩), .int .i64 x, .int .i64 y] w fun e w' => e = .returned (.bool (sameF N F x y)) ∧ Kp w w' := by
  unfold sameF
  cases e1 : hasF N x
  · have k1 := rget_no h x e1
    cases e2 : hasF N y
    · have k2 := rget_no h y e2
      clear h
      go_enter Try.func23, Try.ntmps23
      go_wp2_with (first | (go_at_call 19; with_reducible refine k1.mono ?_; rintro e w' ⟨rfl, rfl⟩) | (go_at_call 19; with_reducible refine k2.mono ?_; rintro e w' ⟨rfl, rfl⟩))
      go_ret
      exact ⟨rfl, Kp.refl _⟩
    · obtain ⟨n, rfl⟩ : ∃ n : Nat, y = (n : Int) := ⟨y.toNat, by have := (hasF_iff N y).1 e2; omega⟩
      have k2 := rget_ok h n (by have := (hasF_iff N n).1 e2; omega) (hF n)
      clear h
      go_enter Try.func23, Try.ntmps23
      go_wp2_with (first | (go_at_call 19; with_reducible refine k1.mono ?_; rintro e w' ⟨rfl, rfl⟩))
      with_reducible refine k2.mono ?_
      rintro e w2 ⟨rfl, B2, K2⟩
      have HK : Hid (Kp w' w2) := K2
      clear K2 B2 k2
      go_wp2
      go_ret
      exact ⟨rfl, HK.out⟩
  · obtain ⟨m, rfl⟩ : ∃ m : Nat, x = (m : Int) := ⟨x.toNat, by have := (hasF_iff N x).1 e1; omega⟩
    have k1 := rget_ok h m (by have := (hasF_iff N m).1 e1; omega) (hF m)
    have HR : Aside (RM w T q N ops F) := h
    clear h
    cases e2 : hasF N y
    · go_enter Try.func23, Try.ntmps23
      go_wp2_with fail
      with_reducible refine k1.mono ?_
      rintro e w2 ⟨rfl, B2, K2⟩
      have k2 := rget_no (HR.out.kp K2) y e2
      have HK : Hid (Kp w w2) := K2
      clear K2 B2 k1
      go_wp2_with (first | (go_at_call 19; with_reducible refine k2.mono ?_; rintro e w' ⟨rfl, rfl⟩))
      go_ret
      exact ⟨rfl, HK.out⟩
    · obtain ⟨n, rfl⟩ : ∃ n : Nat, y = (n : Int) := ⟨y.toNat, by have := (hasF_iff N y).1 e2; omega⟩
      have hn : n < N := by have := (hasF_iff N n).1 e2; omega
      rw [show ((m : Int)).toNat = m from rfl, show ((n : Int)).toNat = n from rfl]
      obtain ⟨r, hr⟩ : ∃ r, r = alike (F m) (F n) 4096 := ⟨_, rfl⟩
      rw [← hr]
      have se := strOf_eq (n := 4096) (hF m) (hF n)
      rw [← hr] at se
      clear hr
      go_enter Try.func23, Try.ntmps23
      go_wp2_with fail
      with_reducible refine k1.mono ?_
      rintro e w2 ⟨rfl, B2, K2⟩
      have k2 := rget_ok (HR.out.kp K2) n hn (hF n)
      have HB : Hid (BS w2 w.heap.size 0 4096 (F m) ∧ Kp w w2) := ⟨B2, K2⟩
      clear K2 B2 k1
      go_wp2_with fail
      with_reducible refine k2.mono ?_
      rintro e w3 ⟨rfl, B3, K3⟩
      have s1 := string_any w3 w.heap.size 0 4096 4096 (F m) (HB.out.1.kp K3).cells
      have s2 := string_any w3 w2.heap.size 0 4096 4096 (F n) B3.cells
      have HK : Hid (Kp w w3) := HB.out.2.trans K3
      clear B3 K3 HB k2
      generalize strOf (F m) 4096 = a at *
      generalize strOf (F n) 4096 = b at *
      go_wp2
      go_ret
      rw [Bool.true_and, Bool.true_and]
      exact ⟨by first | rfl | (rw [← se]; rfl), HK.out⟩

end Go.Proofs.Ytndlkkacnpjlmaa
